package check

import (
	"slices"
	"strconv"
	"strings"
	"testing"

	"swage/api"
	"swage/parse"
	"swage/token"
)

func wants[T comparable](t *testing.T, what string, got, want T) {
	t.Helper()
	if got != want {
		t.Errorf("%s: %v; want %v", what, got, want)
	}
}

// cut is a text as a failure tells it.
func cut(s string) string {
	if len(s) > 2000 {
		return s[:1000] + " .. " + s[len(s)-1000:]
	}
	return s
}

// parsed answers the tree of a program.
func parsed(t *testing.T, s string) api.Node {
	t.Helper()
	l, at, err := token.Lex(s)
	if err != api.OK {
		t.Fatalf("Lex of %s: error %d at %d", cut(s), err, at)
	}
	n, at, err := parse.Parse(l)
	if err != api.OK {
		t.Fatalf("Parse of %s: error %d at token %d", cut(s), err, at)
	}
	return n
}

// refusedTree fails the test if Check does not tell that error at that place, and nothing beside it.
func refusedTree(t *testing.T, what string, n api.Node, at int, want api.Errno) {
	t.Helper()
	l, place, err := Check(n)
	if err != want || place != at {
		t.Errorf("Check of %s: error %d at %d; want %d at %d", cut(what), err, place, want, at)
	}
	if len(l) > 0 {
		t.Errorf("Check of %s: %d functions beside an error", cut(what), len(l))
	}
}

func fitsTree(t *testing.T, what string, n api.Node) []api.Proc {
	t.Helper()
	l, at, err := Check(n)
	if err != api.OK || at != 0 {
		t.Fatalf("Check of %s: error %d at %d; want none, at 0", cut(what), err, at)
	}
	return l
}

// refused fails the test if Check does not tell that error where @ stands in the text.
func refused(t *testing.T, s string, want api.Errno) {
	t.Helper()
	text := strings.Replace(s, "@", "", 1)
	refusedTree(t, s, parsed(t, text), strings.Index(s, "@"), want)
}

// fits fails the test if Check tells an error.
func fits(t *testing.T, s string) []api.Proc {
	t.Helper()
	return fitsTree(t, s, parsed(t, s))
}

// told is a text with @ where an error is told; of OK there is none.
type told struct {
	text string
	err  api.Errno
}

// tells fails the test if of a program with each of the texts in it something else is told.
func tells(t *testing.T, head, tail string, l []told) {
	t.Helper()
	for _, x := range l {
		if x.err == api.OK {
			fits(t, head+x.text+tail)
		} else {
			refused(t, head+x.text+tail, x.err)
		}
	}
}

// functions answers many functions.
func functions(many int) string {
	var b strings.Builder
	for i := range many {
		b.WriteString("func f" + strconv.Itoa(i) + "() {}\n")
	}
	return b.String()
}

// listed answers many numbered names, each with what stands behind it, with commas between.
func listed(name string, many int, behind string) string {
	l := make([]string, many)
	for i := range l {
		l[i] = name + strconv.Itoa(i) + behind
	}
	return strings.Join(l, ", ")
}

func node(kind int, text string, at int, kids ...api.Node) api.Node {
	return api.Node{Kind: kind, Text: text, At: at, Kids: kids}
}

func TestExampleOfTheChapter(t *testing.T) {
	_, at, err := Check(parsed(t, "func main() { print a; }"))
	if err != api.ErrNone || at != 20 {
		t.Errorf("error %d at %d; want ErrNone at 20", err, at)
	}
}

// P12.1: names of functions, and main

func TestNoFunction(t *testing.T) {
	refusedTree(t, "nothing", parsed(t, ""), 0, api.ErrNone)
	refusedTree(t, "blanks", parsed(t, "  \n"), 0, api.ErrNone)
	for _, at := range []int{0, 1, -5, 77, api.MaxInt, api.MinInt} {
		refusedTree(t, "a program of no function", node(api.NProgram, "", at), at, api.ErrNone)
		refusedTree(t, "an empty list", api.Node{Kind: api.NProgram, Text: "main", At: at, Kids: []api.Node{}}, at, api.ErrNone)
	}
}

func TestMain(t *testing.T) {
	tells(t, "", "", []told{
		{"func main() {}", api.OK},
		{"func f() {} func main() {}", api.OK},
		{"func main() {} func f() {}", api.OK},
		{"func f() {} func main() {} func g(a int) int {}", api.OK},
		{"func main() { return; }", api.OK},
		{"func main() { main(); }", api.OK},
		{"@func f() {}", api.ErrNone},
		{"  @func f() {} func g() {}", api.ErrNone},
		{"@func Main() {} func mai() {} func main_() {} func main1() {} func MAIN() {}", api.ErrNone},
		{"@func f(main int) { var main int; }", api.ErrNone},
		{"@func f() { main(); }", api.ErrNone},
		{"@func main(a int) {}", api.ErrType},
		{"@func main(a int, b *int) {}", api.ErrType},
		{"@func main() int {}", api.ErrType},
		{"@func main() *int { return new(int); }", api.ErrType},
		{"@func main(a int) int { return a; }", api.ErrType},
		{"func f() {} @func main(a int) {} func g() {}", api.ErrType},
		{"func f(a int) int {} func g() {} @func main() int { return 1; }", api.ErrType},
	})
}

func TestNamesOfFunctions(t *testing.T) {
	tells(t, "", "", []told{
		{"func main() {} @func main() {}", api.ErrTwice},
		{"func f() {} @func f() {}", api.ErrTwice},
		{"func f() {} func main() {} @func f() {}", api.ErrTwice},
		{"func main() {} func f() {} func g() {} @func f(a int) int {} func f() {}", api.ErrTwice},
		{"func main() {} func f(a int) {} @func f(b *int) {}", api.ErrTwice},
		{"func main() {} func f() {} func F() {} func ff() {} func f_() {} func f1() {}", api.OK},
		{"func main() {} func a(a int) int { return a; }", api.OK},
		{"func main() { var main int; main(); main = main; }", api.OK},
	})
	tree := parsed(t, "func main() {} func g() {} func h() {}")
	for _, name := range []string{"", " ", "int", "7", "\x00", "é", "a b"} {
		tree.Kids[1].Text, tree.Kids[2].Text = name, "g"
		fitsTree(t, "a function "+strconv.Quote(name), tree)
		tree.Kids[2].Text = name
		refusedTree(t, "two functions "+strconv.Quote(name), tree, tree.Kids[2].At, api.ErrTwice)
	}
}

func TestHowManyFunctions(t *testing.T) {
	l := fits(t, "func main() {}"+functions(api.MaxFuncs-1))
	wants(t, "functions of MaxFuncs", len(l), api.MaxFuncs)
	wants(t, "functions of MaxFuncs", len(fits(t, functions(api.MaxFuncs-1)+"func main() {}")), api.MaxFuncs)
	full := functions(api.MaxFuncs - 1)
	tells(t, full, "", []told{
		{"func main() {} @func f() {}", api.ErrFull},
		{"func main() {} @func f() {} func g() {} func f() {}", api.ErrFull},
		{"func f() {} @func main() {}", api.ErrFull},
		{"func main() {} @func main() {}", api.ErrFull}, // not ErrTwice
		{"func main() {} @func f7() {}", api.ErrFull},
		{"func main() {} @func f(a [0]int, a int) [2]int { print x; }", api.ErrFull},
		{"func main() { print x; } @func f() {}", api.ErrFull},
		{"func main(a int) {} @func f() {}", api.ErrFull},
		{"@func f7() {} func f() {}", api.ErrTwice},
		{"func main(a @[2]int) {} func f() {}", api.ErrType},
		{"func main(a int, @a int) {} func f() {}", api.ErrTwice},
		{"func main() @[0]int {} func f() {}", api.ErrFull},
	})
	refused(t, "func f(a @(int)) {}"+full+"func main() {} func g() {}", api.ErrType)
}

// P12.1: parameters and results

func TestHowManyParameters(t *testing.T) {
	full := listed("a", api.MaxArgs, " int")
	fits(t, "func main() {} func f("+full+") {}")
	fits(t, "func main() {} func f("+full+") int {} func g("+full+") {}")
	tells(t, "func main() {} func f("+full+", ", "", []told{
		{"@a int) {}", api.ErrFull},
		{"@a int, b int) {}", api.ErrFull},
		{"@a7 int) {}", api.ErrFull}, // not ErrTwice
		{"@a [0]int) {}", api.ErrFull},
		{"@a [2]int) {}", api.ErrFull},
		{"@a int) [2]int {} func f() {}", api.ErrFull},
	})
	refused(t, "func main() {} func f("+listed("a", api.MaxArgs-1, " int")+", @a0 int, a0 int) {}", api.ErrTwice)
	refused(t, "func f(a int, @a int) {} func main("+full+", a int) {}", api.ErrTwice)
}

func TestNamesOfParameters(t *testing.T) {
	tells(t, "func main() {} func f(", "", []told{
		{"a int, b int) {}", api.OK},
		{"a int, A int, aa int, a_ *int, a1 int) {}", api.OK},
		{"f int, main *int) {}", api.OK},
		{"a int) {} func g(a *int) {}", api.OK},
		{"a int, @a int) {}", api.ErrTwice},
		{"a int, @a *int) {}", api.ErrTwice},
		{"a int, b int, c int, @a int, b int) {}", api.ErrTwice},
		{"a int, b int, @b int, a int) {}", api.ErrTwice},
		{"a int, @a [0]int) {}", api.ErrTwice},
		{"a int, @a [2]int) {}", api.ErrTwice},
		{"a @[0]int, a int) {}", api.ErrFull},
		{"a int, @a int) [0]int {}", api.ErrTwice},
		{"a int) {} func g(b int, @b int) {}", api.ErrTwice},
	})
}

// deepType answers the text of a type of which so many are in one another.
func deepType(depth int) string { return strings.Repeat("*", depth-1) + "int" }

// wideType answers the text of a tuple of so many.
func wideType(many int) string { return "(" + strings.Repeat("int, ", many-1) + "int)" }

func TestTypesOfParametersAndResults(t *testing.T) {
	most, more := strconv.Itoa(api.MaxCells), strconv.Itoa(api.MaxCells+1)
	l := []told{
		{"int", api.OK},
		{"*int", api.OK},
		{"***int", api.OK},
		{"*[3]int", api.OK},
		{"*(int, *int, [2]int)", api.OK},
		{"*[" + most + "]int", api.OK},
		{"*" + wideType(api.MaxFields), api.OK},
		{deepType(api.MaxNest), api.OK},
		{"@[3]int", api.ErrType},
		{"@[1]int", api.ErrType},
		{"@[" + most + "]int", api.ErrType},
		{"@(int)", api.ErrType},
		{"@(int, int)", api.ErrType},
		{"@" + wideType(api.MaxFields), api.ErrType},
		{"@[3]*int", api.ErrType},
		{"@[0]int", api.ErrFull},
		{"@[" + more + "]int", api.ErrFull},
		{"@[9223372036854775807]int", api.ErrFull},
		{"@[1024][1025]int", api.ErrFull},
		{"@" + wideType(api.MaxFields+1), api.ErrFull},
		{"@([" + most + "]int, int)", api.ErrFull},
		{"@*[0]int", api.ErrFull}, // at the whole type's node
		{"@**[" + more + "]int", api.ErrFull},
		{"@(int, [0]int)", api.ErrFull},
		{"@*" + wideType(api.MaxFields+1), api.ErrFull},
	}
	tells(t, "func main() {} func f(a ", ") {}", l)
	tells(t, "func main() {} func f(a int, b *int, c ", ", d [0]int) [2]int {}", slices.DeleteFunc(slices.Clone(l), func(x told) bool { return x.err == api.OK }))
	tells(t, "func main() {} func f() ", " {}", l)
	tells(t, "func main() {} func f(a int, b *int) ", " {}", l)
	tells(t, "func main() {} func f(a @[2]int) ", " {}", []told{{"[0]int", api.ErrType}, {"int", api.ErrType}})
}

// Texts of arrays that are no numbers, and types that are too deep, come from other hands than Parse's.
func TestTypesThatParseDoesNotMake(t *testing.T) {
	array := func(text string) api.Node {
		return node(api.NPointer, "", 31, node(api.NArray, text, 32, node(api.NInt, "", 33)))
	}
	deep := func(depth int) api.Node {
		n := node(api.NInt, "", 30+depth)
		for i := 1; i < depth; i++ {
			n = node(api.NPointer, "", 30+depth-i, n)
		}
		return n
	}
	for _, c := range []struct {
		n   api.Node
		err api.Errno
	}{
		{array("3"), api.OK},
		{array(""), api.ErrArg},
		{array("x"), api.ErrArg},
		{array("03"), api.ErrArg},
		{array("-1"), api.ErrArg},
		{array("9223372036854775808"), api.ErrArg},
		{array("0"), api.ErrFull},
		{deep(api.MaxNest), api.OK},
		{deep(api.MaxNest + 1), api.ErrFull},
		{deep(5 * api.MaxNest), api.ErrFull},
	} {
		for _, place := range typePlaces() {
			n := parsed(t, "func main() { var a int; print 1; var p *int; p = new(int); } func f(a int) int {}")
			*place(&n) = c.n
			what := "a type of " + c.n.Kids[0].Text + " with error " + strconv.Itoa(int(c.err))
			if c.err != api.OK {
				refusedTree(t, what, n, 31, c.err)
			} else if _, _, err := Check(n); err != api.OK && err != api.ErrType {
				t.Errorf("%s: error %d", what, err)
			}
		}
	}
}

// typePlaces tells where types stand in a program of two functions.
func typePlaces() map[string]func(*api.Node) *api.Node {
	return map[string]func(*api.Node) *api.Node{
		"parameter": func(n *api.Node) *api.Node { return &n.Kids[1].Kids[0].Kids[0] },
		"result":    func(n *api.Node) *api.Node { return &n.Kids[1].Kids[1] },
		"variable":  func(n *api.Node) *api.Node { return &n.Kids[0].Kids[1].Kids[0].Kids[0] },
		"new":       func(n *api.Node) *api.Node { return &n.Kids[0].Kids[1].Kids[3].Kids[1].Kids[0] },
	}
}

// All functions are gone over twice: heads, then main, then bodies in the order of the program.

func TestHeadsAheadOfBodies(t *testing.T) {
	tells(t, "", "", []told{
		{"func main() { print x; } func f(a @[2]int) {}", api.ErrType},
		{"func main() { print x; } @func main() {}", api.ErrTwice},
		{"func main() { print x; } func f() @[0]int {}", api.ErrFull},
		{"func f() { print x; } @func main(a int) { print y; }", api.ErrType},
		{"@func f() { print x; }", api.ErrNone},
		{"func f(a @[2]int) {}", api.ErrType}, // ahead of main, which is not there
		{"func main(a int) {} func f() @(int) {}", api.ErrType},
		{"func main() int {} @func main() {}", api.ErrTwice},
		{"func f(a int, @a int) {} func f() {}", api.ErrTwice},
		{"func f() {} @func f(a [0]int) {}", api.ErrTwice},
		{"func f(a int, b @[0]int) {} func g(a [2]int) {} func main(a int) {}", api.ErrFull},
		{"func f() { print @x; } func main() { print y; }", api.ErrNone},
		{"func main() { print @x; } func f() { var a int; var a int; }", api.ErrNone},
		{"func f() { var a int; @var a int; } func main() { print x; }", api.ErrTwice},
		{"func f() { print 1; } func g() { print @f(); } func main() { g(1); }", api.ErrType},
	})
}

// P12.2: statements

// world is a program of functions and variables of all sorts, up to where main goes on.
const world = `func zero() int { return 7; } func one(a int) int { return a; } func ptr(a *int) *int { return a; }
func two(a int, p *int) {} func none() {} func arr(a *[3]int) *[3]int { return a; }
func main() { var a int; var b int; var p *int; var q *int; var pp **int; var r [3]int; var s [2][3]int;
var t (int, *int, [2]int); var u ((int, int), int); var rp [2]*int; var pr *[3]int; var pt *(int, *int); `

const whatFollows = ` print zero(); } func last(a int) { a = a; }`

// inMain tells of statements what is told of them in a function's own block, and in blocks within.
func inMain(t *testing.T, l []told) {
	t.Helper()
	tells(t, world, whatFollows, l)
	tells(t, world+"if 1 { print 2; } else { for a { ", "print a; } }"+whatFollows, l)
	tells(t, strings.Replace(world, "func main()", "func other(i int)", 1), whatFollows+" func main() {}", l)
}

// inValue tells of an expression what is told of it wherever an int may stand.
func inValue(t *testing.T, l []told) {
	t.Helper()
	for _, around := range [][2]string{{"print ", ";"}, {"a = ", ";"}, {"r[", "] = 1;"}, {"print 1 + one(-(", "));"}, {"for ", " {}"}} {
		tells(t, world+around[0], around[1]+whatFollows, l)
	}
}

func TestNamesOfBlocks(t *testing.T) {
	tells(t, "func f(x int) {} func g(p *int) {} func main() { ", " }", []told{
		{"print @a; var a int;", api.ErrNone},
		{"@a = 1; var a int;", api.ErrNone},
		{"var a int; print a;", api.OK},
		{"var a int; print @a_;", api.ErrNone},
		{"var a int; print @aa;", api.ErrNone},
		{"var a int; print @A;", api.ErrNone},
		{"var ab int; print @a;", api.ErrNone},
		{"if 1 { var a int; } print @a;", api.ErrNone},
		{"if 1 { var a int; } else { print @a; }", api.ErrNone},
		{"if 1 { print 1; } else { var a int; } print @a;", api.ErrNone},
		{"for 1 { var a int; } print @a;", api.ErrNone},
		{"for @a { var a int; }", api.ErrNone},
		{"if @a { var a int; }", api.ErrNone},
		{"if 1 { print @a; var a int; }", api.ErrNone},
		{"if 1 { if 1 { var a int; } print @a; }", api.ErrNone},
		{"if 1 { var a int; if 1 { var b int; } print a; print @b; }", api.ErrNone},
		{"if 1 { var a int; } if 1 { print @a; }", api.ErrNone},
		{"var a int; if 1 { print a; var a *int; print *a; } print a;", api.OK},
		{"var a int; if 1 { var a *int; print @a; } print a;", api.ErrType},
		{"var a int; if 1 { var a *int; a = new(int); } print @*a;", api.ErrType},
		{"var a int; if 1 { var a *int; } else { print a; }", api.OK},
		{"var a int; if 1 { var a *int; } else { var a [2]int; print a[0]; } print a;", api.OK},
		{"var a int; if 1 { a = 1; var a *int; a = new(int); if *a { var a [2]int; print a[0]; } print *a; } print a;", api.OK},
		{"var a int; for a { var a *int; for *a { var a int; a = 1; } } a = 2;", api.OK},
		{"var a int; if a { var b int; b = 1; } else { var b *int; b = &a; } var b [2]int; b[0] = 1;", api.OK},
		{"var a int; for a { var a *int; } if a { a = 1; }", api.OK},
		{"var f int; f = 1; f(f);", api.OK},
		{"print @f;", api.ErrNone},
		{"print @main;", api.ErrNone},
		{"print @x;", api.ErrNone}, // of another function
		{"print @p;", api.ErrNone},
	})
	refused(t, "func f(x int) { var y int; } func main() { print @y; }", api.ErrNone)
	refused(t, "func main() { var y int; } func f(x int) { print x; @y = 1; }", api.ErrNone)
}

func TestVariablesOfOneName(t *testing.T) {
	tells(t, "func main() {} func f(x int, y *int) { ", " }", []told{
		{"var a int; var b int; var A int; var aa int;", api.OK},
		{"var a int; @var a int;", api.ErrTwice},
		{"var a int; @var a *int;", api.ErrTwice},
		{"var a int; var b int; var c int; @var a int; var b int;", api.ErrTwice},
		{"var a int; if 1 { var b int; } @var a int;", api.ErrTwice},
		{"var a int; if 1 { var a int; } @var a int;", api.ErrTwice},
		{"var a int; if 1 { var a int; @var a int; }", api.ErrTwice},
		{"var a int; if 1 { var b int; for b { var a int; var c int; @var a int; } }", api.ErrTwice},
		{"if 1 { var a int; } else { var a int; } for 1 { var a int; } var a int;", api.OK},
		{"if 1 { var b int; } else { var a int; @var a int; }", api.ErrTwice},
		{"@var x int;", api.ErrTwice},
		{"@var y int;", api.ErrTwice},
		{"@var x int; var x int;", api.ErrTwice},
		{"if 1 { var x *int; x = y; } x = 1;", api.OK},
		{"if 1 { var x *int; @var x int; }", api.ErrTwice},
		{"for x { var x int; } @var x int;", api.ErrTwice},
		{"var a int; @var a [0]int;", api.ErrTwice},
		{"var a @[0]int; var a int;", api.ErrFull},
		{"var f int; var main int; var g int;", api.OK},
	})
	fits(t, "func main() { var a int; } func f() { var a int; } func g(a int) {}")
	fits(t, "func main() { var x int; } func f(x int) { }")
}

func TestTypesOfVariables(t *testing.T) {
	most, more := strconv.Itoa(api.MaxCells), strconv.Itoa(api.MaxCells+1)
	inMain(t, []told{
		{"var x int;", api.OK},
		{"var x ***int;", api.OK},
		{"var x [" + most + "]int;", api.OK},
		{"var x *[" + most + "](int);", api.OK},
		{"var x [2](int, *[4]int, (int, (int)));", api.OK},
		{"var x " + wideType(api.MaxFields) + ";", api.OK},
		{"var x @[0]int;", api.ErrFull},
		{"var x @[" + more + "]int;", api.ErrFull},
		{"var x @*[0]int;", api.ErrFull},
		{"var x @" + wideType(api.MaxFields+1) + ";", api.ErrFull},
		{"var x @(int, ([" + most + "]int));", api.ErrFull},
	})
}

// variables answers many NVar, each in its block or in one within.
func variables(many int, within bool) string {
	var b strings.Builder
	for i := range many {
		s := "var v" + strconv.Itoa(i) + " int; "
		if within && i%2 == 1 {
			s = "if 1 { " + s + "} "
		}
		b.WriteString(s)
	}
	return b.String()
}

func TestHowManyVariables(t *testing.T) {
	const most = api.MaxReg / 4
	for _, within := range []bool{false, true} {
		l := fits(t, "func main() { "+variables(most, within)+"}")
		wants(t, "variables", len(l[0].Vars), most)
		wants(t, "variables that may be held", len(l[0].Held), most)
		l = fits(t, "func main() {} func f(a int, b *int) { "+variables(most-2, within)+"} func g() { "+variables(most, within)+"}")
		wants(t, "variables beside two parameters", len(l[1].Vars), most)
		tells(t, "func main() { "+variables(most, within), " }", []told{
			{"@var a int;", api.ErrFull},
			{"if 1 { @var v0 int; }", api.ErrFull},
			{"@var v0 int;", api.ErrTwice},
			{"var a @[0]int;", api.ErrFull},
			{"print @x; var a int;", api.ErrNone},
			{"@var a int; print x;", api.ErrFull},
			{"@var a int; var a int;", api.ErrFull},
			{"print v0;", api.OK},
		})
		refused(t, "func main() {} func f(a int, b *int) { "+variables(most-2, within)+"@var a1 int; }", api.ErrFull)
		refused(t, "func main() { "+variables(most-1, within)+"if 1 { var a int; } for 1 { @var a int; } }", api.ErrFull)
	}
	full := listed("a", api.MaxArgs, " int")
	fits(t, "func main() {} func f("+full+") { "+variables(most-api.MaxArgs, false)+"}")
	refused(t, "func main() {} func f("+full+") { "+variables(most-api.MaxArgs, true)+"@var a int; }", api.ErrFull)
}

func TestSet(t *testing.T) {
	inMain(t, []told{
		{"a = 1;", api.OK},
		{"a = b;", api.OK},
		{"a = read;", api.OK},
		{"a = zero();", api.OK},
		{"p = q;", api.OK},
		{"p = &a;", api.OK},
		{"p = new(int);", api.OK},
		{"p = ptr(q);", api.OK},
		{"pp = &p;", api.OK},
		{"pr = &r;", api.OK},
		{"pr = new([3]int);", api.OK},
		{"pr = &s[1];", api.OK},
		{"pt = new((int, *int));", api.OK},
		{"*p = 1;", api.OK},
		{"*pp = p;", api.OK},
		{"**pp = 1;", api.OK},
		{"*ptr(p) = 1;", api.OK},
		{"*new(int) = 1;", api.OK},
		{"*&a = 1;", api.OK},
		{"r[0] = 1;", api.OK},
		{"s[a][b] = r[a];", api.OK},
		{"rp[1] = p;", api.OK},
		{"*rp[1] = 1;", api.OK},
		{"t.0 = 1;", api.OK},
		{"t.1 = p;", api.OK},
		{"t.2[1] = 1;", api.OK},
		{"u.0.1 = u.1;", api.OK},
		{"(*pr)[2] = 1;", api.OK},
		{"(*pt).1 = p;", api.OK},
		{"(a) = ((b));", api.OK},
		{"((r)[(0)]) = 1;", api.OK},
		{"((t).0) = 1;", api.OK},
		{"(*p) = 1;", api.OK},
		{"@a = p;", api.ErrType},
		{"@p = a;", api.ErrType},
		{"@p = 0;", api.ErrType},
		{"@p = pp;", api.ErrType},
		{"@pp = p;", api.ErrType},
		{"@pr = p;", api.ErrType},
		{"@pr = new([2]int);", api.ErrType},
		{"@pt = new((int, int));", api.ErrType},
		{"@*p = p;", api.ErrType},
		{"@r[0] = p;", api.ErrType},
		{"@t.1 = 1;", api.ErrType},
		{"@rp[0] = 1;", api.ErrType},
		{"@r = r;", api.ErrType}, // no value
		{"@s[0] = r;", api.ErrType},
		{"@t = t;", api.ErrType},
		{"@u.0 = u.0;", api.ErrType},
		{"@*pr = r;", api.ErrType},
		{"@*pt = *pt;", api.ErrType},
		{"@r = 1;", api.ErrType},
		{"@a = r;", api.ErrType},
		{"@1 = 1;", api.ErrType}, // no place
		{"@1 = a;", api.ErrType},
		{"@read = a;", api.ErrType},
		{"@zero() = 1;", api.ErrType},
		{"@ptr(p) = p;", api.ErrType},
		{"@new(int) = p;", api.ErrType},
		{"@&a = p;", api.ErrType},
		{"@-a = 1;", api.ErrType},
		{"@a + b = 1;", api.ErrType},
		{"@(-a) = 1;", api.ErrType},
		{"@(a + b) = 1;", api.ErrType},
		{"@x = 1;", api.ErrNone}, // what is in it is told first
		{"@x = y;", api.ErrNone},
		{"a = @x;", api.ErrNone},
		{"p = @x;", api.ErrNone},
		{"1 = @x;", api.ErrNone},
		{"r = @x;", api.ErrNone},
		{"r[0] = @*a;", api.ErrType},
		{"@*a = x;", api.ErrType},
		{"r[@x] = y;", api.ErrNone},
		{"a = @none();", api.ErrType},
		{"@none() = 1;", api.ErrType},
		{"a = 1; @p = 1; a = p;", api.ErrType},
	})
}

func TestIfAndFor(t *testing.T) {
	inMain(t, []told{
		{"if a {}", api.OK},
		{"if a {} else {}", api.OK},
		{"if a { b = 1; } else { b = 2; }", api.OK},
		{"if a { if b {} else {} } else { for b {} }", api.OK},
		{"for a {}", api.OK},
		{"for a < b { a = a + 1; }", api.OK},
		{"if 1 {}", api.OK},
		{"if p == q {}", api.OK},
		{"for r[a] != *p { if t.0 {} }", api.OK},
		{"if @p {}", api.ErrType},
		{"if @p { x = 1; } else { y = 1; }", api.ErrType},
		{"if @r {}", api.ErrType},
		{"if @t {} else {}", api.ErrType},
		{"if @&a {}", api.ErrType},
		{"if @*pp {}", api.ErrType},
		{"if (@new(int)) {}", api.ErrType}, // parentheses are not of what is in them
		{"for @p {}", api.ErrType},
		{"for @s[1] { x = 1; }", api.ErrType},
		{"for @u.0 {}", api.ErrType},
		{"for @none() {}", api.ErrType},
		{"if @x {}", api.ErrNone},
		{"for @x { y = 1; }", api.ErrNone},
		{"if -@x { y = 1; }", api.ErrNone},
		{"if a { @x = 1; } else { y = 1; }", api.ErrNone},
		{"if a {} else { @y = 1; }", api.ErrNone},
		{"if a { @p = 1; } else { y = 1; }", api.ErrType},
		{"for a { @y = 1; }", api.ErrNone},
		{"if a {} for b {} @x = 1;", api.ErrNone},
	})
}

func TestReturn(t *testing.T) {
	tells(t, "func main() {} func g() {} func f(a int, p *int) { var r [2]int; ", " }", []told{
		{"return;", api.OK},
		{"if a { return; } else { return; } for a { return; }", api.OK},
		{"@return a;", api.ErrType},
		{"@return p;", api.ErrType},
		{"@return 1;", api.ErrType},
		{"@return r;", api.ErrType},
		{"return @g();", api.ErrType},
		{"return @x;", api.ErrNone},
		{"if a { @return 1; }", api.ErrType},
		{"return; @return 1;", api.ErrType},
	})
	tells(t, "func main() {} func g() {} func h() int {} func f(a int, p *int) int { var r [2]int; ", " }", []told{
		{"", api.OK},
		{"return a;", api.OK},
		{"return *p + r[1];", api.OK},
		{"return h();", api.OK},
		{"return f(f(a, p), &a);", api.OK},
		{"for a { return 1; } return 2;", api.OK},
		{"@return;", api.ErrType},
		{"@return p;", api.ErrType},
		{"@return &a;", api.ErrType},
		{"@return r;", api.ErrType},
		{"return @g();", api.ErrType},
		{"return @x;", api.ErrNone},
		{"return r[@x];", api.ErrNone},
		{"for a { @return; }", api.ErrType},
		{"return 1; @return p;", api.ErrType},
	})
	tells(t, "func main() {} func f(a int, p *int, q **int) *int { var r [2]*int; ", " }", []told{
		{"return p;", api.OK},
		{"return &a;", api.OK},
		{"return *q;", api.OK},
		{"return r[0];", api.OK},
		{"return new(int);", api.OK},
		{"return (p);", api.OK},
		{"@return;", api.ErrType},
		{"@return a;", api.ErrType},
		{"@return 0;", api.ErrType},
		{"@return q;", api.ErrType},
		{"@return r;", api.ErrType},
		{"@return (a);", api.ErrType},
	})
	tells(t, "func main() {} func f(p *int, q *[2]int, r *[3]int) *[2]int { ", " }", []told{
		{"return q;", api.OK},
		{"return new([2]int);", api.OK},
		{"@return r;", api.ErrType},
		{"@return p;", api.ErrType},
		{"@return *q;", api.ErrType},
		{"@return new((int, int));", api.ErrType},
	})
	fits(t, "func main() { return; }")
	refused(t, "func main() { @return 1; }", api.ErrType)
}

func TestPrint(t *testing.T) {
	inMain(t, []told{
		{"print 1;", api.OK},
		{"print a + b;", api.OK},
		{"print p == q;", api.OK},
		{"print zero();", api.OK},
		{"print @p;", api.ErrType},
		{"print @&a;", api.ErrType},
		{"print @r;", api.ErrType},
		{"print @s[0];", api.ErrType},
		{"print @t;", api.ErrType},
		{"print @t.1;", api.ErrType},
		{"print @*pp;", api.ErrType},
		{"print @*pr;", api.ErrType},
		{"print @new(int);", api.ErrType},
		{"print @ptr(p);", api.ErrType},
		{"print @none();", api.ErrType},
		{"print (@p);", api.ErrType},
		{"print ((@p));", api.ErrType},
		{"print @x;", api.ErrNone},
		{"print @-p;", api.ErrType},
	})
}

func TestDo(t *testing.T) {
	inMain(t, []told{
		{"zero();", api.OK},
		{"none();", api.OK},
		{"ptr(p);", api.OK},
		{"arr(pr);", api.OK},
		{"two(1, p);", api.OK},
		{"two(zero(), ptr(&a));", api.OK},
		{"last(1);", api.OK},
		{"(none());", api.OK},
		{"((zero()));", api.OK},
		{"@other2();", api.ErrNone},
		{"(@other2());", api.ErrNone},
		{"@a();", api.ErrNone},
		{"@zero(1);", api.ErrType},
		{"@none(1);", api.ErrType},
		{"two(1, @none());", api.ErrType},
		{"one(@none());", api.ErrType},
		{"(@none(1));", api.ErrType},
		{"none(@none());", api.ErrType},
	})
}
