package parse

import (
	"math/rand"
	"slices"
	"strconv"
	"strings"

	"swage/api"
)

// The words and signs, as the chapters list them.
const (
	listedWords = "func var if else for return print new read int"
	listedSigns = "== != <= << >> ( ) { } [ ] , ; . = + - * / % & | ^ <"
)

// grammar is the chapter's table. NAME and NUMBER are tokens, as is what is no row's name; a + behind a row's name: it has one depth more.
var grammar = map[string][]string{
	"program":        {"", "function program"},
	"function":       {"func NAME ( parameters result block"},
	"parameters":     {")", "parameter moreParameters"},
	"moreParameters": {")", ", parameter moreParameters"},
	"parameter":      {"NAME type+"},
	"result":         {"", "type+"},
	"type":           {"int", "* type+", "[ NUMBER ] type+", "( type+ moreTypes"},
	"moreTypes":      {")", ", type+ moreTypes"},
	"block":          {"{ statements"},
	"statements":     {"}", "statement+ statements"},
	"statement": {
		"var NAME type+ ;", "if expression+ block otherwise", "for expression+ block",
		"return ;", "return expression+ ;", "print expression+ ;", "expression+ = expression+ ;", "call+ ;",
	},
	"otherwise":     {"", "else block"},
	"expression":    {"sum moreSums"},
	"moreSums":      {"", "== sum moreSums", "!= sum moreSums", "< sum moreSums", "<= sum moreSums"},
	"sum":           {"product moreProducts"},
	"moreProducts":  {"", "+ product moreProducts", "- product moreProducts", "^ product moreProducts", "| product moreProducts"},
	"product":       {"operand moreOperands"},
	"moreOperands":  {"", "* operand moreOperands", "/ operand moreOperands", "% operand moreOperands", "& operand moreOperands", "<< operand moreOperands", ">> operand moreOperands"},
	"operand":       {"- operand+", "* operand+", "& operand+", "primary parts"},
	"parts":         {"", "[ expression+ ] parts", ". NUMBER parts"},
	"primary":       {"NUMBER", "NAME", "NAME ( arguments", "new ( type+ )", "read", "( expression+ )"},
	"arguments":     {")", "expression+ moreArguments"},
	"moreArguments": {")", ", expression+ moreArguments"},
	"call":          {"NAME ( arguments", "( call+ )"},
}

// part is one of a row of the grammar.
type part struct {
	what  string
	inner bool // one depth deeper
}

// rules is the grammar, its rows cut in their parts, the last one first.
var rules = cutRows()

func cutRows() map[string][][]part {
	all := map[string][][]part{}
	for what, rows := range grammar {
		for _, row := range rows {
			parts := []part{}
			for _, s := range strings.Fields(row) {
				what, inner := strings.CutSuffix(s, "+")
				if what == "" {
					what, inner = s, false
				}
				parts = append(parts, part{what, inner})
			}
			slices.Reverse(parts)
			all[what] = append(all[what], parts)
		}
	}
	return all
}

// awaited is what has to come: a row or a token, in its depth, and what has to come behind it.
type awaited struct {
	what  string
	depth int
	then  *awaited
}

// fronts answers all ways in which it can go on: a token that has to come (or, as nil, the end), or something too deep.
func fronts(a *awaited) []*awaited { return addFronts(nil, a) }

func addFronts(all []*awaited, a *awaited) []*awaited {
	if a == nil || tooDeep(a) || rules[a.what] == nil {
		return append(all, a)
	}
	for _, parts := range rules[a.what] {
		now := a.then
		for _, x := range parts {
			depth := a.depth
			if x.inner {
				depth++
			}
			now = &awaited{x.what, depth, now}
		}
		all = addFronts(all, now)
	}
	return all
}

func tooDeep(a *awaited) bool {
	if a.depth <= api.MaxNest {
		return false
	}
	switch a.what {
	case "type", "statement", "expression", "call", "operand":
		return true
	}
	return false
}

var words, signs = setOf(listedWords), setOf(listedSigns)

func setOf(list string) map[string]bool {
	set := map[string]bool{}
	for _, s := range strings.Fields(list) {
		set[s] = true
	}
	return set
}

// stands tells whether that token may stand where what is awaited.
func stands(what string, x api.Token) bool {
	switch {
	case what == "NAME":
		return x.Kind == api.TokName && !words[x.Text]
	case what == "NUMBER":
		return x.Kind == api.TokNumber
	case words[what]:
		return x.Kind == api.TokName && x.Text == what
	}
	return x.Kind == api.TokSign && x.Text == what
}

// behind answers the ways in which it can go on behind a token.
func behind(ways []*awaited, x api.Token) []*awaited {
	var all []*awaited
	for _, a := range ways {
		if a != nil && !tooDeep(a) && stands(a.what, x) {
			all = append(all, fronts(a.then)...)
		}
	}
	return all
}

// stopped tells the error of what cannot go on.
func stopped(ways []*awaited) api.Errno {
	for _, a := range ways {
		if a != nil && tooDeep(a) {
			return api.ErrFull
		}
	}
	return api.ErrForm
}

// plainly tells what Parse has to tell of tokens, beside the tree: it goes all ways at once.
func plainly(l []api.Token) (int, api.Errno) {
	ways := fronts(&awaited{what: "program"})
	for i, x := range l {
		next := behind(ways, x)
		if len(next) == 0 {
			return i, stopped(ways)
		}
		ways = next
	}
	if slices.Contains(ways, nil) {
		return len(l), api.OK
	}
	return len(l), stopped(ways)
}

// tokensOf answers the tokens of a text with blanks between all of them; each is a byte apart.
func tokensOf(s string) []api.Token {
	var l []api.Token
	at := 0
	for _, text := range strings.Fields(s) {
		kind := api.TokSign
		switch c := text[0]; {
		case c >= '0' && c <= '9':
			kind = api.TokNumber
		case !signs[text]:
			kind = api.TokName
		}
		l = append(l, api.Token{Kind: kind, Text: text, At: at})
		at += len(text) + 1
	}
	return l
}

// maker makes programs at random: their tokens and their trees.
type maker struct {
	r      *rand.Rand
	tokens []api.Token
	at     int // where the next token will begin
	left   int // how many tokens there may be, about
}

func makeProgram(r *rand.Rand, many int) ([]api.Token, api.Node) {
	m := maker{r: r, at: r.Intn(5), left: many}
	n := m.program()
	return m.tokens, n
}

func (m *maker) put(kind int, text string) string {
	m.tokens = append(m.tokens, api.Token{Kind: kind, Text: text, At: m.at})
	m.at += len(text) + m.r.Intn(3)
	m.left--
	return text
}

func (m *maker) is(quoted string) string {
	if words[quoted] {
		return m.put(api.TokName, quoted)
	}
	return m.put(api.TokSign, quoted)
}

func (m *maker) all(quoted ...string) {
	for _, s := range quoted {
		m.is(s)
	}
}

func (m *maker) of(list string) string {
	l := strings.Fields(list)
	return l[m.r.Intn(len(l))]
}

func (m *maker) name() string   { return m.put(api.TokName, m.of("a b f g main _ x1 func1 Int iff")) }
func (m *maker) number() string { return m.put(api.TokNumber, strconv.Itoa(m.r.Intn(20))) }

// goes tells whether there is to be more of something.
func (m *maker) goes(percent int) bool { return m.left > 0 && m.r.Intn(100) < percent }

func (m *maker) program() api.Node {
	n := api.Node{Kind: api.NProgram, At: m.at}
	for m.left > 0 {
		n.Kids = append(n.Kids, m.function())
	}
	if len(m.tokens) == 0 {
		n.At = 0
	}
	return n
}

func (m *maker) function() api.Node {
	n := api.Node{Kind: api.NFunc, At: m.at}
	m.is("func")
	n.Text = m.name()
	n.Kids = m.listed(false, func() api.Node {
		x := api.Node{Kind: api.NParam, At: m.at}
		x.Text = m.name()
		x.Kids = []api.Node{m.oneType()}
		return x
	})
	if m.goes(50) {
		n.Kids = append(n.Kids, m.oneType())
	} else {
		n.Kids = append(n.Kids, api.Node{Kind: api.NVoid, At: m.at})
	}
	n.Kids = append(n.Kids, m.block())
	return n
}

// listed makes what stands in parentheses with "," between.
func (m *maker) listed(atLeastOne bool, one func() api.Node) []api.Node {
	m.is("(")
	var l []api.Node
	if atLeastOne {
		l = append(l, one())
	}
	for m.goes(50) {
		if len(l) > 0 {
			m.is(",")
		}
		l = append(l, one())
	}
	m.is(")")
	return l
}

func (m *maker) oneType() api.Node {
	n := api.Node{Kind: api.NInt, At: m.at}
	switch {
	case m.goes(20):
		m.is("*")
		n.Kind = api.NPointer
		n.Kids = []api.Node{m.oneType()}
	case m.goes(20):
		m.is("[")
		n.Kind, n.Text = api.NArray, m.number()
		m.is("]")
		n.Kids = []api.Node{m.oneType()}
	case m.goes(20):
		n.Kind = api.NTuple
		n.Kids = m.listed(true, m.oneType)
	default:
		m.is("int")
	}
	return n
}

func (m *maker) block() api.Node {
	n := api.Node{Kind: api.NBlock, At: m.at}
	m.is("{")
	for m.goes(70) {
		n.Kids = append(n.Kids, m.statement())
	}
	m.is("}")
	return n
}

func (m *maker) statement() api.Node {
	n := api.Node{At: m.at}
	switch m.r.Intn(8) {
	case 0:
		n.Kind = api.NVar
		m.is("var")
		n.Text = m.name()
		n.Kids = []api.Node{m.oneType()}
	case 1:
		n.Kind = api.NIf
		m.is("if")
		n.Kids = []api.Node{m.expression(), m.block()}
		if m.goes(50) {
			m.is("else")
			n.Kids = append(n.Kids, m.block())
		}
		return n
	case 2:
		n.Kind = api.NFor
		m.is("for")
		n.Kids = []api.Node{m.expression(), m.block()}
		return n
	case 3:
		n.Kind = api.NReturn
		m.is("return")
		if m.goes(50) {
			n.Kids = []api.Node{m.expression()}
		}
	case 4:
		n.Kind = api.NPrint
		m.is("print")
		n.Kids = []api.Node{m.expression()}
	case 5:
		n.Kind = api.NDo
		n.Kids = []api.Node{m.call()}
	default:
		n.Kind = api.NSet
		n.Kids = []api.Node{m.expression()}
		m.is("=")
		n.Kids = append(n.Kids, m.expression())
	}
	m.is(";")
	return n
}

func (m *maker) call() api.Node {
	if m.goes(10) {
		m.is("(")
		n := m.call()
		m.is(")")
		return n
	}
	n := api.Node{Kind: api.NCall, At: m.at}
	n.Text = m.name()
	n.Kids = m.listed(false, m.expression)
	return n
}

func (m *maker) expression() api.Node { return m.level(0) }

// level makes an expression, a sum, a product or an operand.
func (m *maker) level(level int) api.Node {
	if level == 3 {
		return m.operand()
	}
	between := []string{"== != < <=", "+ - ^ |", "* / % & << >>"}[level]
	n := m.level(level + 1)
	for m.goes(20) {
		sign := m.is(m.of(between))
		second := m.level(level + 1)
		n = api.Node{Kind: api.NBin, Text: sign, At: n.At, Kids: []api.Node{n, second}}
	}
	return n
}

func (m *maker) operand() api.Node {
	if !m.goes(25) {
		return m.parts()
	}
	n := api.Node{At: m.at}
	n.Kind = map[string]int{"-": api.NNeg, "*": api.NAt, "&": api.NAddr}[m.is(m.of("- * &"))]
	n.Kids = []api.Node{m.operand()}
	return n
}

func (m *maker) parts() api.Node {
	n := m.primary()
	for m.goes(20) {
		if m.r.Intn(2) == 0 {
			m.is("[")
			index := m.expression()
			m.is("]")
			n = api.Node{Kind: api.NIndex, At: n.At, Kids: []api.Node{n, index}}
			continue
		}
		m.is(".")
		n = api.Node{Kind: api.NField, Text: m.number(), At: n.At, Kids: []api.Node{n}}
	}
	return n
}

func (m *maker) primary() api.Node {
	n := api.Node{At: m.at}
	switch {
	case m.goes(15):
		return m.call()
	case m.goes(15):
		m.is("(")
		n = m.expression()
		m.is(")")
	case m.goes(10):
		n.Kind = api.NNew
		m.all("new", "(")
		n.Kids = []api.Node{m.oneType()}
		m.is(")")
	case m.goes(10):
		n.Kind = api.NRead
		m.is("read")
	case m.r.Intn(2) == 0:
		n.Kind, n.Text = api.NNumber, m.number()
	default:
		n.Kind, n.Text = api.NUse, m.name()
	}
	return n
}

// rows are those of the chapter's table, by Kinds: of a node with that many Kids at least. T is the Text, a number a Kid, ALL all Kids, LIST all Kids with "," between.
var rows = []struct {
	kind, kids int
	row        string
}{
	{api.NParam, 1, "T 0"},
	{api.NVoid, 0, ""},
	{api.NInt, 0, "int"},
	{api.NPointer, 1, "* 0"},
	{api.NArray, 1, "[ T ] 0"},
	{api.NTuple, 1, "( LIST )"},
	{api.NBlock, 0, "{ ALL }"},
	{api.NVar, 1, "var T 0 ;"},
	{api.NSet, 2, "0 = 1 ;"},
	{api.NIf, 3, "if 0 1 else 2"},
	{api.NIf, 2, "if 0 1"},
	{api.NFor, 2, "for 0 1"},
	{api.NReturn, 1, "return 0 ;"},
	{api.NReturn, 0, "return ;"},
	{api.NPrint, 1, "print 0 ;"},
	{api.NDo, 1, "0 ;"},
	{api.NNumber, 0, "T"},
	{api.NUse, 0, "T"},
	{api.NBin, 2, "( 0 T 1 )"},
	{api.NNeg, 1, "( - 0 )"},
	{api.NAt, 1, "( * 0 )"},
	{api.NAddr, 1, "( & 0 )"},
	{api.NIndex, 2, "0 [ 1 ]"},
	{api.NField, 1, "0 . T"},
	{api.NCall, 0, "T ( LIST )"},
	{api.NNew, 1, "new ( 0 )"},
	{api.NRead, 0, "read"},
}

// together joins what is not empty, with blanks between.
func together(parts ...string) string {
	return strings.Join(slices.DeleteFunc(parts, func(s string) bool { return s == "" }), " ")
}

// plainText is the Text of a tree, by the rows.
func plainText(n api.Node) string {
	var kids []string
	for _, kid := range n.Kids {
		kids = append(kids, plainText(kid))
	}
	switch many := len(kids) - 2; {
	case n.Kind == api.NProgram:
		all := ""
		for _, s := range kids {
			all += s + "\n"
		}
		return all
	case n.Kind == api.NFunc && many >= 0:
		return together("func", n.Text, "(", listText(kids[:many]), ")", kids[many], kids[many+1])
	}
	for _, x := range rows {
		if x.kind == n.Kind && len(kids) >= x.kids {
			return rowText(x.row, n.Text, kids)
		}
	}
	return "?"
}

func listText(kids []string) string {
	var parts []string
	for i, s := range kids {
		if i > 0 {
			parts = append(parts, ",")
		}
		parts = append(parts, s)
	}
	return together(parts...)
}

func rowText(row, text string, kids []string) string {
	var parts []string
	for _, part := range strings.Fields(row) {
		switch part {
		case "T":
			part = text
		case "LIST":
			part = listText(kids)
		case "ALL":
			part = together(slices.Clone(kids)...)
		case "0", "1", "2":
			part = kids[part[0]-'0']
		}
		parts = append(parts, part)
	}
	return together(parts...)
}
