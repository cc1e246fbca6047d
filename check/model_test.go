package check

import (
	"math/rand"
	"slices"
	"strconv"
	"strings"
	"testing"

	"swage/api"
	"swage/parse"
	"swage/token"
	"swage/types"
)

// plain is a model of the chapter's words: it knows of each node where it stands, works out what each expression comes to
// as though all fits, and lists all that has to hold, in the chapter's order; the first that does not is told.
type plain struct {
	funcs   []*plainFunc
	of      *plainFunc
	spots   map[*api.Node]spot
	known   map[*api.Node]api.Type // the types of expressions, once they were worked out
	demands []demand
}

// spot is where a node stands in its function.
type spot struct {
	order  int
	blocks string // those that are around it, as a path
}

type demand struct {
	holds bool
	err   api.Errno
	at    int
}

type plainFunc struct {
	n      *api.Node
	params []api.Type
	result api.Type
	vars   []plainVar
}

type plainVar struct {
	spot
	n    *api.Node // its NParam or NVar
	name string
	t    api.Type
	held bool
}

// plainly answers what Check has to tell of a tree as Parse makes them: the drawn answer, or a place and an error.
func plainly(n *api.Node) (string, int, api.Errno) {
	m := &plain{spots: map[*api.Node]spot{}, known: map[*api.Node]api.Type{}}
	for i := range n.Kids {
		m.head(&n.Kids[i])
	}
	m.main(n)
	for _, f := range m.funcs {
		m.of = f
		m.statement(&f.n.Kids[len(f.n.Kids)-1])
	}
	for _, d := range m.demands {
		if !d.holds {
			return "", d.at, d.err
		}
	}
	return m.drawn(), 0, api.OK
}

func (m *plain) demand(holds bool, err api.Errno, at int) {
	m.demands = append(m.demands, demand{holds, err, at})
}

func (m *plain) typed(n *api.Node) api.Type {
	t, err := types.Of(*n)
	m.demand(err == api.OK, err, n.At)
	return t
}

func (m *plain) scalar(n *api.Node) api.Type {
	t := m.typed(n)
	m.demand(types.Scalar(t), api.ErrType, n.At)
	return t
}

func (m *plain) head(n *api.Node) {
	f := &plainFunc{n: n}
	m.of = f
	m.demand(len(m.funcs) < api.MaxFuncs, api.ErrFull, n.At)
	m.demand(m.named(n.Text) < 0, api.ErrTwice, n.At)
	last := len(n.Kids) - 1
	own := "/" + strconv.Itoa(last) + "/" // parameters are known in the function's own block, from its beginning on
	for i := range n.Kids[:last-1] {
		param := &n.Kids[i]
		m.demand(i < api.MaxArgs, api.ErrFull, param.At)
		m.demand(!slices.ContainsFunc(f.vars, func(v plainVar) bool { return v.name == param.Text }), api.ErrTwice, param.At)
		t := m.scalar(&param.Kids[0])
		f.params = append(f.params, t)
		f.vars = append(f.vars, plainVar{spot{-1, own}, param, param.Text, t, false})
	}
	if n.Kids[last-1].Kind != api.NVoid {
		f.result = m.scalar(&n.Kids[last-1])
	}
	m.find(&n.Kids[last], own)
	m.funcs = append(m.funcs, f)
}

// named answers which function has a name, of those that were listed: -1, if none has.
func (m *plain) named(name string) int {
	return slices.IndexFunc(m.funcs, func(f *plainFunc) bool { return f.n.Text == name })
}

func (m *plain) main(n *api.Node) {
	i := m.named("main")
	m.demand(i >= 0, api.ErrNone, n.At)
	if i >= 0 {
		f := m.funcs[i]
		m.demand(len(f.params) == 0 && len(f.n.Kids) == 2 && f.n.Kids[0].Kind == api.NVoid, api.ErrType, f.n.At)
	}
}

// find notes where each node of a function stands, and all its variables.
func (m *plain) find(n *api.Node, blocks string) {
	here := spot{len(m.spots), blocks}
	m.spots[n] = here
	if n.Kind == api.NVar {
		t, _ := types.Of(n.Kids[0])
		m.of.vars = append(m.of.vars, plainVar{here, n, n.Text, t, !types.Scalar(t)})
	}
	for i := range n.Kids {
		kid := &n.Kids[i]
		if kid.Kind == api.NBlock {
			m.find(kid, blocks+strconv.Itoa(len(m.spots))+"/")
		} else {
			m.find(kid, blocks)
		}
	}
}

// meant answers which variable a NUse is: the last one of those that are known there, -1, if there is none.
func (m *plain) meant(n *api.Node) int {
	best, here := -1, m.spots[n]
	for i, v := range m.of.vars {
		if v.name == n.Text && v.order < here.order && strings.HasPrefix(here.blocks, v.blocks) {
			if best < 0 || len(v.blocks) >= len(m.of.vars[best].blocks) {
				best = i
			}
		}
	}
	return best
}

// variable answers which variable a NVar is.
func (m *plain) variable(n *api.Node) int {
	return slices.IndexFunc(m.of.vars, func(v plainVar) bool { return v.n == n })
}

func (m *plain) statement(n *api.Node) {
	switch n.Kind {
	case api.NBlock:
		for i := range n.Kids {
			m.statement(&n.Kids[i])
		}
	case api.NVar:
		k := m.variable(n)
		twice := slices.ContainsFunc(m.of.vars[:k], func(v plainVar) bool { return v.name == n.Text && v.blocks == m.spots[n].blocks })
		m.demand(!twice, api.ErrTwice, n.At)
		m.typed(&n.Kids[0])
		m.demand(k < 1024, api.ErrFull, n.At)
	case api.NSet:
		to, what := m.value(&n.Kids[0]), m.value(&n.Kids[1])
		m.demand(isOneOf(n.Kids[0].Kind, "use at index field") && types.Scalar(to) && types.Text(to) == types.Text(what), api.ErrType, n.At)
	case api.NIf, api.NFor:
		m.int(&n.Kids[0])
		for i := range n.Kids[1:] {
			m.statement(&n.Kids[1+i])
		}
	case api.NReturn:
		var t api.Type
		for i := range n.Kids {
			t = m.value(&n.Kids[i])
		}
		m.demand((len(n.Kids) > 0) == (m.of.result.Kind > 0) && types.Text(t) == types.Text(m.of.result), api.ErrType, n.At)
	case api.NPrint:
		m.int(&n.Kids[0])
	case api.NDo:
		m.expression(&n.Kids[0], true)
	}
}

// isOneOf tells whether a Kind has one of these names.
func isOneOf(kind int, names string) bool {
	return slices.Contains(strings.Fields(names), kindName(kind))
}

func (m *plain) int(n *api.Node) {
	m.demand(types.Text(m.value(n)) == "int", api.ErrType, n.At)
}

func (m *plain) value(n *api.Node) api.Type {
	m.expression(n, false)
	return m.typeOf(n)
}

// expression lists what has to hold of an expression.
func (m *plain) expression(n *api.Node, inDo bool) {
	if n.Kind == api.NNew {
		m.typed(&n.Kids[0])
		return
	}
	var kids []string
	for i := range n.Kids {
		kids = append(kids, types.Text(m.value(&n.Kids[i])))
	}
	typed := func(want ...string) { m.demand(slices.Equal(kids, want), api.ErrType, n.At) }
	switch n.Kind {
	case api.NNumber:
		_, is := token.Number(n.Text)
		m.demand(is, api.ErrType, n.At)
	case api.NUse:
		m.demand(m.meant(n) >= 0, api.ErrNone, n.At)
	case api.NBin:
		op := slices.Index(signs(), n.Text) + 1
		m.demand(op > 0, api.ErrType, n.At)
		if op >= api.Eq {
			m.demand(kids[0] == kids[1] && types.Scalar(m.typeOf(&n.Kids[0])), api.ErrType, n.At)
		} else {
			typed("int", "int")
		}
	case api.NNeg:
		typed("int")
	case api.NAt:
		m.demand(kids[0][0] == '*', api.ErrType, n.At)
	case api.NAddr:
		m.demand(isOneOf(n.Kids[0].Kind, "use at index field"), api.ErrType, n.At)
		m.hold(&n.Kids[0])
	case api.NIndex:
		m.demand(isOneOf(n.Kids[0].Kind, "use at index field"), api.ErrType, n.At)
		m.demand(kids[0][0] == '[' && kids[1] == "int", api.ErrType, n.At)
	case api.NField:
		m.demand(isOneOf(n.Kids[0].Kind, "use at index field"), api.ErrType, n.At)
		m.demand(kids[0][0] == '(' && slices.Contains(numbers(len(m.typeOf(&n.Kids[0]).Kids)), n.Text), api.ErrType, n.At)
	case api.NCall:
		f := m.named(n.Text)
		m.demand(f >= 0, api.ErrNone, n.At)
		if f >= 0 {
			var params []string
			for _, t := range m.funcs[f].params {
				params = append(params, types.Text(t))
			}
			typed(params...)
			m.demand(inDo || m.funcs[f].result.Kind > 0, api.ErrType, n.At)
		}
	}
}

// numbers are those from 0 on.
func numbers(many int) []string {
	l := make([]string, many)
	for i := range l {
		l[i] = strconv.Itoa(i)
	}
	return l
}

// hold holds what NAddr is asked of, or of a part of which.
func (m *plain) hold(n *api.Node) {
	switch {
	case isOneOf(n.Kind, "field index"):
		m.hold(&n.Kids[0])
	case n.Kind == api.NUse && m.meant(n) >= 0:
		m.of.vars[m.meant(n)].held = true
	}
}

// typeOf answers what an expression comes to, if it fits; if not, whatever.
func (m *plain) typeOf(n *api.Node) api.Type {
	t, is := m.known[n]
	if !is {
		t = m.comesTo(n)
		m.known[n] = t
	}
	return t
}

func (m *plain) comesTo(n *api.Node) api.Type {
	first := func() api.Type { return m.typeOf(&n.Kids[0]) }
	switch n.Kind {
	case api.NUse:
		if m.meant(n) >= 0 {
			return m.of.vars[m.meant(n)].t
		}
	case api.NAt, api.NIndex:
		if t := first(); len(t.Kids) > 0 {
			return t.Kids[0]
		}
	case api.NField:
		k, _ := token.Number(n.Text)
		if t := first(); k < len(t.Kids) {
			return t.Kids[k]
		}
	case api.NAddr:
		return types.Pointer(first())
	case api.NNew:
		t, _ := types.Of(n.Kids[0])
		return types.Pointer(t)
	case api.NCall:
		if m.named(n.Text) >= 0 {
			return m.funcs[m.named(n.Text)].result
		}
	default:
		return api.Type{Kind: api.TyInt}
	}
	return api.Type{}
}

// drawn is the answer, when all fits.
func (m *plain) drawn() string {
	var b strings.Builder
	first := m.named("main")
	m.drawFunc(&b, m.funcs[first])
	for i, f := range m.funcs {
		if i != first {
			m.drawFunc(&b, f)
		}
	}
	return b.String()
}

func (m *plain) drawFunc(b *strings.Builder, f *plainFunc) {
	m.of = f
	b.WriteString(f.n.Text + "/" + strconv.Itoa(len(f.params)) + " ")
	for _, v := range f.vars {
		b.WriteString(types.Text(v.t))
		if v.held {
			b.WriteString("!")
		}
		b.WriteString(" ")
	}
	b.WriteString("-> ")
	if f.result.Kind > 0 {
		b.WriteString(types.Text(f.result) + " ")
	}
	m.drawTree(b, &f.n.Kids[len(f.n.Kids)-1])
	b.WriteString("\n")
}

func (m *plain) drawTree(b *strings.Builder, n *api.Node) {
	b.WriteString(kindName(n.Kind))
	if num := m.num(n); num != 0 {
		b.WriteString("#" + strconv.Itoa(num))
	}
	if n.Kind == api.NVar {
		b.WriteString(":" + types.Text(m.of.vars[m.variable(n)].t))
	} else if n.Kind >= api.NNumber && m.typeOf(n).Kind > 0 {
		b.WriteString(":" + types.Text(m.typeOf(n)))
	}
	if len(n.Kids) == 0 || isOneOf(n.Kind, "var new") {
		return
	}
	for i := range n.Kids {
		b.WriteString(map[bool]string{true: "{", false: " "}[i == 0])
		m.drawTree(b, &n.Kids[i])
	}
	b.WriteString("}")
}

func (m *plain) num(n *api.Node) int {
	switch n.Kind {
	case api.NNumber:
		num, _ := strconv.Atoi(n.Text)
		return num
	case api.NVar:
		return m.variable(n)
	case api.NUse:
		return m.meant(n)
	case api.NBin:
		return slices.Index(signs(), n.Text) + 1
	case api.NIndex:
		return types.Size(m.typeOf(n))
	case api.NField:
		ahead, k := 0, slices.Index(numbers(64), n.Text)
		for _, t := range m.typeOf(&n.Kids[0]).Kids[:k] {
			ahead += types.Size(t)
		}
		return ahead
	case api.NNew:
		return types.Size(m.typeOf(n).Kids[0])
	case api.NCall:
		f, main := m.named(n.Text), m.named("main")
		if f == main {
			return 0
		}
		if f < main {
			return f + 1
		}
		return f
	}
	return 0
}

// agrees fails the test if Check tells something else than the model, and answers what it told.
func agrees(t *testing.T, n api.Node) (int, api.Errno) {
	t.Helper()
	want, place, told := plainly(&n)
	l, at, err := Check(n)
	if got := drawn(l); got != want || at != place || err != told {
		t.Fatalf("Check of\n%s%s: error %d at %d\n%swant error %d at %d\n%s", cut(parse.Text(n)), cut(drawnNode(n)), err, at, cut(got), told, place, cut(want))
	}
	return at, err
}

// maker makes programs that mostly fit.
type maker struct {
	r      *rand.Rand
	left   int // how many nodes may still be made
	at     int
	wrong  int // of a thousand things, how many are something else than they should
	funcs  []signature
	result api.Type
	blocks [][]named
}

type signature struct {
	name   string
	params []api.Type
	result api.Type
}

type named struct {
	name string
	t    api.Type
}

func (m *maker) of(list string) string {
	l := strings.Fields(list)
	return l[m.r.Intn(len(l))]
}

func (m *maker) slips() bool { return m.r.Intn(1000) < m.wrong }

func (m *maker) node(kind int, text string, kids ...api.Node) api.Node {
	m.left--
	m.at += 1 + m.r.Intn(3)
	return api.Node{Kind: kind, Text: text, At: m.at, Kids: kids}
}

func integerType() api.Type { return api.Type{Kind: api.TyInt} }

// oneType answers a type.
func (m *maker) oneType(deep int) api.Type {
	switch k := m.r.Intn(9); {
	case k < 3 || deep == 0:
		return integerType()
	case k < 6:
		return types.Pointer(m.oneType(deep - 1))
	case k < 7:
		return api.Type{Kind: api.TyArray, Count: 1 + m.r.Intn(4), Kids: []api.Type{m.oneType(deep - 1)}}
	}
	t := api.Type{Kind: api.TyTuple}
	for range 1 + m.r.Intn(3) {
		t.Kids = append(t.Kids, m.oneType(deep-1))
	}
	return t
}

func (m *maker) scalarType() api.Type {
	t := m.oneType(3)
	if t.Kind >= api.TyArray && !m.slips() {
		return types.Pointer(t)
	}
	return t
}

// typeNode answers the node of a type.
func (m *maker) typeNode(t api.Type) api.Node {
	kinds := []int{0, api.NInt, api.NPointer, api.NArray, api.NTuple}
	n := m.node(kinds[t.Kind], "")
	if t.Kind == api.TyArray {
		n.Text = strconv.Itoa(t.Count)
		if m.slips() {
			n.Text = m.of("0 1048577 x 01")
		}
	}
	for _, kid := range t.Kids {
		n.Kids = append(n.Kids, m.typeNode(kid))
	}
	return n
}

const variableNames = "a b c d x main f"

func (m *maker) program() api.Node {
	n := m.node(api.NProgram, "")
	many := m.r.Intn(4)
	main := m.r.Intn(many + 1)
	for i := range many + 1 {
		f := signature{name: "f" + strconv.Itoa(i)}
		if i == main {
			f.name = "main"
		}
		if i != main || m.slips() {
			for range m.r.Intn(4) {
				f.params = append(f.params, m.scalarType())
			}
			if m.r.Intn(3) > 0 {
				f.result = m.scalarType()
			}
		}
		if m.slips() {
			f.name = m.of("main f0 f1 x")
		}
		m.funcs = append(m.funcs, f)
	}
	for _, f := range m.funcs {
		n.Kids = append(n.Kids, m.function(f))
	}
	return n
}

func (m *maker) function(f signature) api.Node {
	n := m.node(api.NFunc, f.name)
	var own []named
	for i, t := range f.params {
		name := strings.Fields(variableNames)[i]
		if m.slips() {
			name = m.of(variableNames)
		}
		own = append(own, named{name, t})
		n.Kids = append(n.Kids, m.node(api.NParam, name, m.typeNode(t)))
	}
	if f.result.Kind == 0 {
		n.Kids = append(n.Kids, m.node(api.NVoid, ""))
	} else {
		n.Kids = append(n.Kids, m.typeNode(f.result))
	}
	m.result, m.blocks = f.result, nil
	n.Kids = append(n.Kids, m.block(own))
	return n
}

func (m *maker) block(own []named) api.Node {
	n := m.node(api.NBlock, "")
	m.blocks = append(m.blocks, own)
	for range 1 + m.r.Intn(6) {
		if m.left > 0 {
			n.Kids = append(n.Kids, m.statement())
		}
	}
	m.blocks = m.blocks[:len(m.blocks)-1]
	return n
}

func (m *maker) statement() api.Node {
	switch k := m.r.Intn(12); {
	case k < 4:
		return m.declared()
	case k < 7:
		t := m.scalarType()
		to := m.node(api.NAt, "", m.expression(types.Pointer(t), 2))
		if places := m.places(t); len(places) > 0 {
			to = places[m.r.Intn(len(places))]
		}
		if m.slips() {
			to = m.expression(t, 2)
		}
		return m.node(api.NSet, "", to, m.expression(t, 3))
	case k < 9 && len(m.blocks) < 5:
		n := m.node(m.r.Intn(2)+api.NIf, "", m.expression(integerType(), 3), m.block(nil))
		if n.Kind == api.NIf && m.r.Intn(2) == 0 {
			n.Kids = append(n.Kids, m.block(nil))
		}
		return n
	case k < 10:
		if m.result.Kind == 0 {
			return m.node(api.NReturn, "")
		}
		return m.node(api.NReturn, "", m.expression(m.result, 3))
	case k < 11:
		return m.node(api.NPrint, "", m.expression(integerType(), 4))
	}
	return m.node(api.NDo, "", m.call(m.funcs[m.r.Intn(len(m.funcs))], 3))
}

func (m *maker) declared() api.Node {
	own := &m.blocks[len(m.blocks)-1]
	name := m.of(variableNames)
	for slices.ContainsFunc(*own, func(v named) bool { return v.name == name }) && !m.slips() {
		name += m.of("1 2")
	}
	t := m.oneType(3)
	*own = append(*own, named{name, t})
	return m.node(api.NVar, name, m.typeNode(t))
}

// places answers places of a type that variables and their parts are, or point to.
func (m *maker) places(t api.Type) []api.Node {
	var l []api.Node
	seen := map[string]bool{}
	for _, block := range slices.Backward(m.blocks) {
		for _, v := range block {
			if !seen[v.name] {
				m.parts(&l, m.node(api.NUse, v.name), v.t, t, 3)
			}
		}
		for _, v := range block {
			seen[v.name] = true
		}
	}
	return l
}

func (m *maker) parts(l *[]api.Node, n api.Node, is, want api.Type, deep int) {
	if types.Same(is, want) {
		*l = append(*l, n)
	}
	if deep == 0 {
		return
	}
	switch is.Kind {
	case api.TyPointer:
		m.parts(l, m.node(api.NAt, "", n), is.Kids[0], want, deep-1)
	case api.TyArray:
		m.parts(l, m.node(api.NIndex, "", n, m.node(api.NNumber, strconv.Itoa(m.r.Intn(4)))), is.Kids[0], want, deep-1)
	case api.TyTuple:
		for k, kid := range is.Kids {
			m.parts(l, m.node(api.NField, strconv.Itoa(k), n), kid, want, deep-1)
		}
	}
}

// expression answers an expression of a type.
func (m *maker) expression(t api.Type, deep int) api.Node {
	if m.slips() {
		t = m.oneType(2)
	}
	if m.slips() {
		return m.node(api.NUse, m.of(variableNames))
	}
	ways := []func(api.Type, int) (api.Node, bool){m.place, m.place, m.called, m.fresh, m.address, m.reckoned, m.reckoned}
	for range 5 {
		if deep > 0 && m.left > 0 {
			if n, is := ways[m.r.Intn(len(ways))](t, deep-1); is {
				return n
			}
		}
	}
	return m.shortest(t)
}

func (m *maker) shortest(t api.Type) api.Node {
	switch t.Kind {
	case api.TyInt:
		return m.node(api.NNumber, m.of("0 1 2 3 77 9223372036854775807"))
	case api.TyPointer:
		return m.node(api.NNew, "", m.typeNode(t.Kids[0]))
	}
	return m.node(api.NAt, "", m.node(api.NNew, "", m.typeNode(t)))
}

func (m *maker) place(t api.Type, _ int) (api.Node, bool) {
	l := m.places(t)
	if len(l) == 0 {
		return api.Node{}, false
	}
	return l[m.r.Intn(len(l))], true
}

func (m *maker) called(t api.Type, deep int) (api.Node, bool) {
	for _, f := range m.funcs {
		if types.Same(f.result, t) {
			return m.call(f, deep), true
		}
	}
	return api.Node{}, false
}

func (m *maker) call(f signature, deep int) api.Node {
	name := f.name
	if m.slips() {
		name = m.of("f0 f1 f2 main x")
	}
	n := m.node(api.NCall, name)
	for _, t := range f.params {
		if !m.slips() {
			n.Kids = append(n.Kids, m.expression(t, deep))
		}
	}
	if m.slips() {
		n.Kids = append(n.Kids, m.expression(integerType(), 1))
	}
	return n
}

func (m *maker) fresh(t api.Type, _ int) (api.Node, bool) {
	if t.Kind != api.TyPointer {
		return api.Node{}, false
	}
	return m.node(api.NNew, "", m.typeNode(t.Kids[0])), true
}

func (m *maker) address(t api.Type, deep int) (api.Node, bool) {
	if t.Kind != api.TyPointer {
		return api.Node{}, false
	}
	if m.slips() {
		return m.node(api.NAddr, "", m.expression(t.Kids[0], deep)), true
	}
	n, is := m.place(t.Kids[0], deep)
	return m.node(api.NAddr, "", n), is
}

// reckoned answers an expression of an int's type, or what a pointer points to.
func (m *maker) reckoned(t api.Type, deep int) (api.Node, bool) {
	if t.Kind != api.TyInt && m.r.Intn(2) == 0 {
		return m.node(api.NAt, "", m.expression(types.Pointer(t), deep)), true
	}
	if t.Kind != api.TyInt {
		return api.Node{}, false
	}
	sign := m.of("+ - * / % & | ^ << >> < <= == !=")
	if m.slips() {
		sign = m.of("= > ! >= x")
	}
	switch m.r.Intn(5) {
	case 0:
		return m.node(api.NRead, ""), true
	case 1:
		return m.node(api.NNeg, "", m.expression(t, deep)), true
	case 2:
		of := m.scalarType()
		return m.node(api.NBin, m.of("== !="), m.expression(of, deep), m.expression(of, deep)), true
	}
	return m.node(api.NBin, sign, m.expression(t, deep), m.expression(t, deep)), true
}

// made answers a program of some nodes, of which some things do not fit.
func made(r *rand.Rand, wrong int) api.Node {
	m := &maker{r: r, left: 20 + r.Intn(200), wrong: wrong, at: r.Intn(50) - 100}
	n := m.program()
	if n.At == 0 {
		n.At = 7
	}
	return n
}

// changed changes some nodes of a program, so that it stays one as Parse makes them.
func changed(r *rand.Rand, n *api.Node) {
	l := nodes(n)
	for range r.Intn(3) {
		x, y := l[r.Intn(len(l))], l[r.Intn(len(l))]
		switch {
		case r.Intn(2) == 0:
			x.Text = y.Text
		case x.Kind >= api.NNumber && y.Kind >= api.NNumber, isType(*x) && isType(*y):
			if !inDo(n, x) || y.Kind == api.NCall {
				*x = copied(*y)
				l = nodes(n)
			}
		}
	}
}

// inDo tells whether a node is the call of a NDo.
func inDo(n, x *api.Node) bool {
	return slices.ContainsFunc(nodes(n), func(do *api.Node) bool { return do.Kind == api.NDo && &do.Kids[0] == x })
}

// kindAt answers the Kind of a node at a place.
func kindAt(n *api.Node, at int) string {
	for _, x := range nodes(n) {
		if x.At == at {
			return kindName(x.Kind)
		}
	}
	return "none"
}

func TestManyPrograms(t *testing.T) {
	t.Parallel()
	r := rand.New(rand.NewSource(1212))
	seen := map[string]int{}
	for i := range 16000 {
		n := made(r, []int{0, 3, 10, 40}[i%4])
		if i%2 == 1 {
			changed(r, &n)
		}
		place, err := agrees(t, n)
		what := "all fits"
		if err != api.OK {
			what = "error " + strconv.Itoa(int(err)) + " of " + kindAt(&n, place)
		}
		seen[what]++
		if i%4 == 0 {
			wants(t, "a program that was made to fit", err, api.OK)
		}
	}
	if seen["all fits"] < 6000 {
		t.Errorf("only %d programs fit", seen["all fits"])
	}
	for _, what := range []string{"1 of array", "1 of pointer", "1 of tuple", "3 of program", "3 of use", "3 of call", "4 of func", "4 of param", "4 of var",
		"5 of array", "5 of pointer", "5 of tuple", "13 of array", "13 of tuple", "13 of func", "13 of set", "13 of return",
		"13 of number", "13 of use", "13 of bin", "13 of neg", "13 of at", "13 of addr", "13 of index", "13 of field", "13 of call", "13 of new"} {
		if seen["error "+what] < 3 {
			t.Errorf("error %s was told %d times alone", what, seen["error "+what])
		}
	}
}

// What is parsed of a program's text is told alike.
func TestManyTextsOfPrograms(t *testing.T) {
	r := rand.New(rand.NewSource(1213))
	for range 5000 {
		n := made(r, 0)
		want, _, _ := Check(n)
		l, at, err := Check(parsed(t, parse.Text(n)))
		if err != api.OK || at != 0 || drawn(l) != drawn(want) {
			t.Fatalf("%s: error %d at %d\n%swant\n%s", parse.Text(n), err, at, drawn(l), drawn(want))
		}
	}
}
