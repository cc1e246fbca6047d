package parse

import (
	"math/rand"
	"slices"
	"strconv"
	"strings"
	"testing"

	"swage/api"
	"swage/token"
)

func node(kind int, text string, kids ...api.Node) api.Node {
	return api.Node{Kind: kind, Text: text, Kids: kids}
}

func use(text string) api.Node { return node(api.NUse, text) }

func uses(many int) []api.Node {
	var l []api.Node
	for i := range many {
		l = append(l, use(string(rune('a'+i))))
	}
	return l
}

// copied answers a tree in new memory.
func copied(n api.Node) api.Node {
	n.Text = strings.Clone(n.Text)
	n.Kids = slices.Clone(n.Kids)
	for i := range n.Kids {
		n.Kids[i] = copied(n.Kids[i])
	}
	return n
}

// P10.3: Text of what was parsed

func TestTextOfPrograms(t *testing.T) {
	for s, want := range map[string]string{
		"":           "",
		"func f(){}": "func f ( ) { }\n",
		"func f() {} func g(a int, b *int) [2]int {}": "func f ( ) { }\nfunc g ( a int , b * int ) [ 2 ] int { }\n",
		"func f ( ) { print 1 + 2 * 3 ; }":            "func f ( ) { print ( 1 + ( 2 * 3 ) ) ; }\n",
		"func f() ( int , ( int ) ) { var a ** int ; if a { } if a { return ; } else { } for a == b { f(1,2+3); } return -a; }": "func f ( ) ( int , ( int ) ) { " +
			"var a * * int ; if a { } if a { return ; } else { } for ( a == b ) { f ( 1 , ( 2 + 3 ) ) ; } return ( - a ) ; }\n",
		"func f() { ((a)) = ((1)-2)-(3-4); *a[1].2 = (&b)[new((int))]; (f()); f(read).0 = -*&1; }": "func f ( ) { " +
			"a = ( ( 1 - 2 ) - ( 3 - 4 ) ) ; ( * a [ 1 ] . 2 ) = ( & b ) [ new ( ( int ) ) ] ; f ( ) ; f ( read ) . 0 = ( - ( * ( & 1 ) ) ) ; }\n",
	} {
		n := parsed(t, s)
		wants(t, "Text of "+s, Text(n), want)
		again(t, n)
	}
}

// again fails the test if the Text of a parsed tree is not parsed as the same one; it tells whether it is not too deep.
func again(t *testing.T, n api.Node) bool {
	t.Helper()
	text := Text(n)
	l := tokensOf(text)
	if len(text) <= api.MaxText {
		l = lexed(t, text)
	}
	wants(t, "Text of "+text[:min(len(text), 200)]+" is as the rows tell it", text == plainText(n), true)
	got, at, err := Parse(l)
	if wantAt, want := plainly(l); want == api.ErrFull {
		if at != wantAt || err != want {
			t.Fatalf("Parse of %s: %d, error %d; want %d, error %d", shown(l), at, err, wantAt, want)
		}
		return false
	}
	if err != api.OK || at != len(l) || !Same(got, n) || !alike(got, n) {
		t.Fatalf("Parse of %s: %d, error %d, %s; want what is like %s", shown(l), at, err, drawn(got, 0), drawn(n, 0))
	}
	wants(t, "Text again", Text(got), text)
	return true
}

// alike tells whether two trees are alike, whatever At is.
func alike(a, b api.Node) bool {
	return a.Kind == b.Kind && a.Text == b.Text && slices.EqualFunc(a.Kids, b.Kids, alike)
}

// P10.5: to the greatest depth

func TestTextToTheGreatestDepth(t *testing.T) {
	repeat := strings.Repeat
	for _, c := range []struct {
		what   string
		text   func(many int) string
		finest int // how many of them have a Text that is not too deep
	}{
		{"sums", func(many int) string { return "func f() { print 1" + repeat("+1", many) + "; }" }, 98},
		{"products in sums", func(many int) string { return "func f() { print 1" + repeat("+1*2", many) + "; }" }, 97},
		{"sums from the right", func(many int) string {
			return "func f() { print " + repeat("1+(", many) + "1" + repeat(")", many) + "; }"
		}, 98},
		{"signs", func(many int) string { return "func f() { print " + repeat("-", many) + "1; }" }, 49},
		{"signs of what is set", func(many int) string { return "func f() { " + repeat("*", many) + "a = 1; }" }, 49},
		{"parentheses", func(many int) string {
			return "func f() { print " + repeat("(", many) + "1" + repeat(")", many) + "; }"
		}, 98},
		{"indices", func(many int) string {
			return "func f() { print " + repeat("a[", many) + "1" + repeat("]", many) + "; }"
		}, 98},
		{"calls", func(many int) string { return "func f() { " + repeat("f(", many) + "f()" + repeat(")", many) + "; }" }, 98},
		{"types", func(many int) string { return "func f() " + repeat("*", many) + "int { }" }, 99},
		{"tuples", func(many int) string {
			return "func f() { var a " + repeat("(", many) + "int" + repeat(")", many) + "; }"
		}, 98},
		{"blocks", func(many int) string {
			return "func f() { " + repeat("if 1 { ", many) + "return;" + repeat(" }", many) + " }"
		}, 99},
		{"blocks with sums", func(many int) string { return "func f() { " + repeat("for a<1 { ", many) + repeat(" }", many) + " }" }, 98},
		{"long rows", func(many int) string { return "func f() { " + repeat("a[1].2 = f(1, 2); ", many) + "}" }, 1 << 10},
		{"long parts", func(many int) string { return "func f() { print a" + repeat("[1].2", many) + "; }" }, 1 << 10},
	} {
		for _, many := range []int{1, 2, c.finest - 1, c.finest, c.finest + 1, c.finest + 2} {
			if l := lexed(t, c.text(many)); agrees(t, l) {
				n, _, _ := Parse(l)
				wants(t, "the Text of "+strconv.Itoa(many)+" "+c.what+" is not too deep", again(t, n), many <= c.finest || c.finest == 1<<10)
			} else if many <= c.finest {
				t.Errorf("%d %s are not parsed", many, c.what)
			}
		}
	}
}

// P10.3: Text of other nodes

func TestTextOfEachKind(t *testing.T) {
	for _, x := range rows {
		for more := range 3 {
			n := node(x.kind, "T", uses(x.kids+more)...)
			wants(t, "Text of "+drawn(n, 0), Text(n), plainText(n))
		}
	}
	for _, c := range []struct {
		n    api.Node
		want string
	}{
		{node(api.NProgram, "T"), ""},
		{node(api.NProgram, "T", uses(1)...), "a\n"},
		{node(api.NProgram, "T", uses(3)...), "a\nb\nc\n"},
		{node(api.NFunc, "T", uses(2)...), "func T ( ) a b"},
		{node(api.NFunc, "T", uses(3)...), "func T ( a ) b c"},
		{node(api.NFunc, "T", uses(5)...), "func T ( a , b , c ) d e"},
		{node(api.NParam, "T", uses(1)...), "T a"},
		{node(api.NVoid, "T"), ""},
		{node(api.NInt, "T"), "int"},
		{node(api.NPointer, "T", uses(1)...), "* a"},
		{node(api.NArray, "T", uses(1)...), "[ T ] a"},
		{node(api.NTuple, "T", uses(1)...), "( a )"},
		{node(api.NTuple, "T", uses(3)...), "( a , b , c )"},
		{node(api.NBlock, "T"), "{ }"},
		{node(api.NBlock, "T", uses(2)...), "{ a b }"},
		{node(api.NVar, "T", uses(1)...), "var T a ;"},
		{node(api.NSet, "T", uses(2)...), "a = b ;"},
		{node(api.NIf, "T", uses(2)...), "if a b"},
		{node(api.NIf, "T", uses(3)...), "if a b else c"},
		{node(api.NFor, "T", uses(2)...), "for a b"},
		{node(api.NReturn, "T"), "return ;"},
		{node(api.NReturn, "T", uses(1)...), "return a ;"},
		{node(api.NPrint, "T", uses(1)...), "print a ;"},
		{node(api.NDo, "T", uses(1)...), "a ;"},
		{node(api.NNumber, "T"), "T"},
		{node(api.NUse, "T"), "T"},
		{node(api.NBin, "T", uses(2)...), "( a T b )"},
		{node(api.NNeg, "T", uses(1)...), "( - a )"},
		{node(api.NAt, "T", uses(1)...), "( * a )"},
		{node(api.NAddr, "T", uses(1)...), "( & a )"},
		{node(api.NIndex, "T", uses(2)...), "a [ b ]"},
		{node(api.NField, "T", uses(1)...), "a . T"},
		{node(api.NCall, "T"), "T ( )"},
		{node(api.NCall, "T", uses(1)...), "T ( a )"},
		{node(api.NCall, "T", uses(3)...), "T ( a , b , c )"},
		{node(api.NNew, "T", uses(1)...), "new ( a )"},
		{node(api.NRead, "T"), "read"},
	} {
		wants(t, "Text of "+drawn(c.n, 0), Text(c.n), c.want)
		c.n.At = 77
		wants(t, "Text of "+drawn(c.n, 0), Text(c.n), c.want)
		wants(t, "Text of what has a node that is none, too", Text(node(api.NBlock, "", c.n, node(99, ""))), together("{", c.want, "? }"))
	}
}

func TestTextOfKidsBeyondTheRow(t *testing.T) {
	for _, c := range []struct {
		kind, many int
		want       string
	}{
		{api.NParam, 2, "T a"}, {api.NVoid, 1, ""}, {api.NInt, 1, "int"}, {api.NPointer, 2, "* a"}, {api.NArray, 3, "[ T ] a"},
		{api.NVar, 2, "var T a ;"}, {api.NSet, 3, "a = b ;"}, {api.NIf, 4, "if a b else c"}, {api.NFor, 3, "for a b"}, {api.NReturn, 2, "return a ;"},
		{api.NPrint, 2, "print a ;"}, {api.NDo, 2, "a ;"}, {api.NNumber, 1, "T"}, {api.NUse, 2, "T"}, {api.NBin, 3, "( a T b )"}, {api.NNeg, 2, "( - a )"},
		{api.NAt, 2, "( * a )"}, {api.NAddr, 5, "( & a )"}, {api.NIndex, 3, "a [ b ]"}, {api.NField, 2, "a . T"}, {api.NNew, 2, "new ( a )"}, {api.NRead, 1, "read"},
	} {
		n := node(c.kind, "T", uses(c.many)...)
		wants(t, "Text of "+drawn(n, 0), Text(n), c.want)
		n.Kids = append(n.Kids, node(0, "")) // nor is it told that one of these is none
		wants(t, "Text of "+drawn(n, 0), Text(n), c.want)
	}
}

func TestTextOfTooFewKids(t *testing.T) {
	fewest := map[int]int{
		api.NFunc: 2, api.NParam: 1, api.NPointer: 1, api.NArray: 1, api.NTuple: 1, api.NVar: 1, api.NSet: 2, api.NIf: 2, api.NFor: 2,
		api.NPrint: 1, api.NDo: 1, api.NBin: 2, api.NNeg: 1, api.NAt: 1, api.NAddr: 1, api.NIndex: 2, api.NField: 1, api.NNew: 1,
	}
	for kind := api.NProgram; kind <= api.NRead; kind++ {
		for many := range 5 {
			n := node(kind, "T", uses(many)...)
			wants(t, "Text of "+drawn(n, 0)+" is ?", Text(n) == "?", many < fewest[kind])
			inner := Text(node(api.NNeg, "", n))
			wants(t, "Text of "+drawn(n, 0)+", behind a sign, is ?", inner == "( - ? )", many < fewest[kind])
		}
	}
}

func TestTextOfKindsThatAreNone(t *testing.T) {
	for _, kind := range []int{0, -1, 28, 29, 100, api.MaxInt, api.MinInt} {
		for many := range 4 {
			wants(t, "Text of Kind "+strconv.Itoa(kind), Text(node(kind, "T", uses(many)...)), "?")
		}
		wants(t, "Text of a program of Kind "+strconv.Itoa(kind), Text(node(api.NProgram, "", node(kind, ""), node(kind, "T"))), "?\n?\n")
		wants(t, "Text of a call of Kind "+strconv.Itoa(kind), Text(node(api.NCall, "f", node(kind, ""), use("a"), node(kind, "T"))), "f ( ? , a , ? )")
	}
}

func TestTextOfEmptyTextsAndKids(t *testing.T) {
	void, no := node(api.NVoid, ""), use("")
	for _, c := range []struct {
		n    api.Node
		want string
	}{
		{no, ""},
		{node(api.NFunc, "", void, node(api.NBlock, "")), "func ( ) { }"},
		{node(api.NFunc, "", void, void), "func ( )"},
		{node(api.NFunc, "", no, no, void, void), "func ( , )"},
		{node(api.NFunc, "", no, use("a"), no, void, void), "func ( , a , )"},
		{node(api.NParam, "", node(api.NInt, "")), "int"},
		{node(api.NParam, "a", void), "a"},
		{node(api.NParam, "", void), ""},
		{node(api.NPointer, "", void), "*"},
		{node(api.NArray, "", void), "[ ]"},
		{node(api.NTuple, "", void), "( )"},
		{node(api.NTuple, "", void, void, no), "( , , )"},
		{node(api.NBlock, "", void, no), "{ }"},
		{node(api.NBlock, "", no, use("a"), no, no, use("b"), no), "{ a b }"},
		{node(api.NVar, "", void), "var ;"},
		{node(api.NSet, "", no, no), "= ;"},
		{node(api.NIf, "", no, no), "if"},
		{node(api.NIf, "", no, no, no), "if else"},
		{node(api.NFor, "", no, no), "for"},
		{node(api.NReturn, "", no), "return ;"},
		{node(api.NPrint, "", no), "print ;"},
		{node(api.NDo, "", no), ";"},
		{node(api.NNumber, ""), ""},
		{node(api.NBin, "", use("a"), use("b")), "( a b )"},
		{node(api.NBin, "", no, no), "( )"},
		{node(api.NBin, "+", no, no), "( + )"},
		{node(api.NNeg, "", no), "( - )"},
		{node(api.NIndex, "", no, no), "[ ]"},
		{node(api.NField, "", no), "."},
		{node(api.NCall, "", no, no), "( , )"},
		{node(api.NCall, ""), "( )"},
		{node(api.NNew, "", void), "new ( )"},
		{node(api.NProgram, "", no, void, use("a"), no), "\n\na\n\n"},
	} {
		wants(t, "Text of "+drawn(c.n, 0), Text(c.n), c.want)
	}
}

// Texts and Kids are as they are: with blanks, line feeds and signs in them, and of any Kind.
func TestTextOfStrangeTextsAndKids(t *testing.T) {
	f := node(api.NFunc, "f", node(api.NVoid, ""), node(api.NBlock, ""))
	program := node(api.NProgram, "", f, f)
	for _, c := range []struct {
		n    api.Node
		want string
	}{
		{use(" "), " "},
		{use("\n"), "\n"},
		{node(api.NCall, " a  b ", use("\n"), use("\xff")), " a  b  ( \n , \xff )"},
		{node(api.NBin, "func", use(";"), use("?")), "( ; func ? )"},
		{node(api.NPrint, "", node(api.NBlock, "", node(api.NReturn, ""))), "print { return ; } ;"},
		{node(api.NProgram, "", node(api.NInt, ""), use("a")), "int\na\n"},
		{node(api.NProgram, "", program, program), "func f ( ) { }\nfunc f ( ) { }\n\nfunc f ( ) { }\nfunc f ( ) { }\n\n"},
		{node(api.NPrint, "", program), "print func f ( ) { }\nfunc f ( ) { }\n ;"},
		{node(api.NBlock, "", program, use("a"), program), "{ func f ( ) { }\nfunc f ( ) { }\n a func f ( ) { }\nfunc f ( ) { }\n }"},
		{node(api.NCall, "f", node(api.NProgram, ""), node(api.NProgram, "", use(""))), "f ( , \n )"},
		{node(api.NProgram, "", node(api.NProgram, ""), node(api.NProgram, "", use("")), use("a")), "\n\n\na\n"},
		{node(api.NNeg, "", node(api.NProgram, "", use(""), use("a"), use(""))), "( - \na\n\n )"},
		{node(api.NIndex, "", node(api.NProgram, "", use("a")), use("b")), "a\n [ b ]"},
		{node(api.NFunc, "f", f, f, f), "func f ( func f ( ) { } ) func f ( ) { } func f ( ) { }"},
	} {
		wants(t, "Text of "+drawn(c.n, 0), Text(c.n), c.want)
		wants(t, "Text by the rows", plainText(c.n), c.want)
	}
}

// randomTree answers a tree of any Kinds, Texts and Kids, of about that many nodes.
func randomTree(r *rand.Rand, many int) api.Node {
	texts := []string{"", "", "a", "b", "f", "1", "+", "func", "a b", "\n", " "}
	n := api.Node{Kind: r.Intn(30) - 1, Text: texts[r.Intn(len(texts))], At: r.Intn(3)}
	for left := many - 1; left > 0; {
		kid := 1 + r.Intn(left)
		n.Kids = append(n.Kids, randomTree(r, kid))
		left -= kid
	}
	return n
}

func plainSize(n api.Node) int {
	many := 1
	for _, kid := range n.Kids {
		many += plainSize(kid)
	}
	return many
}

func TestTextOfManyTrees(t *testing.T) {
	r := rand.New(rand.NewSource(103))
	for round := range 20000 {
		n := randomTree(r, 1+round%40)
		before := copied(n)
		if got, want := Text(n), plainText(n); got != want {
			t.Fatalf("Text of %s: %q; want %q", drawn(n, 0), got, want)
		}
		if got, want := Size(n), plainSize(n); got != want {
			t.Fatalf("Size of %s: %d; want %d", drawn(n, 0), got, want)
		}
		if !equal(n, before) {
			t.Fatalf("%s changed to %s", drawn(before, 0), drawn(n, 0))
		}
	}
}

// P10.2: Size, Same

func TestSizes(t *testing.T) {
	for _, c := range []struct {
		n    api.Node
		want int
	}{
		{api.Node{}, 1},
		{node(-5, "?"), 1},
		{node(api.NUse, "a", uses(3)...), 4},
		{node(0, "", node(0, "", node(0, "", uses(2)...)), node(0, "")), 6},
		{parsed(t, ""), 1},
		{parsed(t, "func f() {}"), 4},
		{parsed(t, "func f(a int) int { print (1) + 2 * -3; }"), 13},
		{node(api.NPointer, "", make([]api.Node, 1000)...), 1001},
	} {
		wants(t, "Size of "+drawn(c.n, 0), Size(c.n), c.want)
	}
}

func TestSameWhateverAtIs(t *testing.T) {
	a, b := parsed(t, "func f(a int) { print 1 + a[2]; }"), parsed(t, "\n\n func  f ( a int ) { print ((1) + a[(2)]) ; } // x")
	wants(t, "Same of two that stand elsewhere", Same(a, b), true)
	wants(t, "equal of two that stand elsewhere", equal(a, b), false)
	wants(t, "Same of nothing", Same(api.Node{}, api.Node{At: 3}), true)
	wants(t, "Same of no Kids and none", Same(api.Node{Kids: []api.Node{}}, api.Node{}), true)
	wants(t, "Same of none and no Kids", Same(api.Node{}, api.Node{Kids: make([]api.Node, 0, 4)}), true)
}

func TestWhatIsNotTheSame(t *testing.T) {
	trees := []api.Node{
		{}, {Kind: 1}, {Kind: -1}, {Text: "a"}, {Text: "b"}, {Text: "aa"}, {Kind: 1, Text: "a"},
		{Kids: []api.Node{{}}}, {Kids: []api.Node{{}, {}}}, {Kids: []api.Node{{Kind: 1}}}, {Kids: []api.Node{{Text: "a"}}},
		{Kids: []api.Node{{Kind: 1}, {}}}, {Kids: []api.Node{{}, {Kind: 1}}},
		{Kids: []api.Node{{Kids: []api.Node{{}}}}}, {Kids: []api.Node{{Kids: []api.Node{{}}}, {}}}, {Kids: []api.Node{{}, {Kids: []api.Node{{}}}}},
	}
	for i, a := range trees {
		for j, b := range trees {
			wants(t, "Same of "+drawn(a, 0)+" and "+drawn(b, 0), Same(a, b), i == j)
		}
	}
}

// each node of a tree, by a pointer to it.
func pointers(n *api.Node) []*api.Node {
	l := []*api.Node{n}
	for i := range n.Kids {
		l = append(l, pointers(&n.Kids[i])...)
	}
	return l
}

func TestSameOfTreesThatDifferInOnePlace(t *testing.T) {
	changes := []func(x *api.Node){
		func(x *api.Node) { x.Kind++ },
		func(x *api.Node) { x.Kind = -x.Kind - 100 },
		func(x *api.Node) { x.Text += " " },
		func(x *api.Node) { x.Text = "x" + x.Text },
		func(x *api.Node) { x.Kids = append(x.Kids, api.Node{}) },
		func(x *api.Node) { x.Kids = append([]api.Node{{}}, x.Kids...) },
		func(x *api.Node) {
			if len(x.Kids) == 0 {
				x.Kind = 99
				return
			}
			x.Kids = x.Kids[:len(x.Kids)-1]
		},
	}
	r := rand.New(rand.NewSource(102))
	trees := []api.Node{parsed(t, everything), randomTree(r, 1), randomTree(r, 2), randomTree(r, 20), randomTree(r, 50)}
	for _, n := range trees {
		size := Size(n)
		for at := range size {
			for i, change := range changes {
				other := copied(n)
				x := pointers(&other)[at]
				x.At += 5
				if !Same(n, other) || !Same(other, n) {
					t.Fatalf("Same of trees that differ in the At of node %d: false", at)
				}
				change(x)
				if Same(n, other) || Same(other, n) {
					t.Fatalf("Same of trees that differ by change %d of node %d: true", i, at)
				}
			}
		}
	}
}

func TestSameOfManyTrees(t *testing.T) {
	r := rand.New(rand.NewSource(104))
	var trees []api.Node
	for range 300 {
		trees = append(trees, randomTree(r, 1+r.Intn(3)))
	}
	same := 0
	for _, a := range trees {
		for _, b := range trees {
			if alike(a, b) {
				same++
			}
			wants(t, "Same of "+drawn(a, 0)+" and "+drawn(b, 0), Same(a, b), alike(a, b))
		}
	}
	if same <= len(trees) {
		t.Errorf("no two of these are alike")
	}
}

// P10.4: memory

// spoil changes all of a tree, and what room there is behind its Kids.
func spoil(n *api.Node) {
	kids := n.Kids[:cap(n.Kids)]
	for i := range kids {
		spoil(&kids[i])
	}
	*n = api.Node{Kind: -9, Text: "spoilt", At: -9}
}

func spoilTokens(l []api.Token) {
	l = l[:cap(l)]
	for i := range l {
		l[i] = api.Token{Kind: -9, Text: "spoilt", At: -9}
	}
}

func TestChangedAnswersChangeNoLaterOnes(t *testing.T) {
	l := tokensOf(everything)
	before := slices.Clone(l[:cap(l)])
	first, _, _ := Parse(l)
	want := copied(first)
	second, _, _ := Parse(l)
	spoil(&first)
	if !equal(second, want) {
		t.Errorf("one Parse changed with another: %s", drawn(second, 0))
	}
	third, at, err := Parse(l)
	if !equal(third, want) || at != len(l) || err != api.OK {
		t.Errorf("Parse behind a change: %s, %d, error %d", drawn(third, 0), at, err)
	}
	if !slices.Equal(l[:cap(l)], before) {
		t.Errorf("the tokens changed: %+v", l[:cap(l)])
	}
}

func TestChangedTokensChangeNoAnswer(t *testing.T) {
	for _, s := range []string{everything, "func f ( ) { a = 1", ""} {
		l := slices.Grow(tokensOf(s), 10)
		before := slices.Clone(l[:cap(l)])
		n, _, _ := Parse(l)
		want := copied(n)
		if !slices.Equal(l[:cap(l)], before) {
			t.Errorf("Parse changed its tokens, or what is behind them: %+v", l[:cap(l)])
		}
		spoilTokens(l)
		if !equal(n, want) {
			t.Errorf("what Parse answered changed with its tokens: %s", drawn(n, 0))
		}
	}
}

func TestLaterCallsChangeNoAnswer(t *testing.T) {
	n := parsed(t, everything)
	text := Text(n)
	wantTree, wantText := copied(n), strings.Clone(text)
	r := rand.New(rand.NewSource(105))
	for range 200 {
		l, _ := makeProgram(r, 60)
		other, _, _ := Parse(l)
		Text(other)
		Size(other)
		Same(n, other)
		Parse(l[:len(l)/2])
		spoil(&other)
		spoilTokens(l)
	}
	Parse(tokensOf("func f ( ) { print" + strings.Repeat(" (", 2*api.MaxNest)))
	wants(t, "what Parse answered is as it was, behind later calls", equal(n, wantTree), true)
	wants(t, "what Text answered, behind later calls", text, wantText)
}

// roomy answers a tree with something in the spare room behind all Kids.
func roomy(n api.Node) api.Node {
	var kids []api.Node
	for _, kid := range n.Kids {
		kids = append(kids, roomy(kid))
	}
	n.Kids = append(kids, use("behind"))[:len(kids)]
	return n
}

func TestTreesAreLeftAsTheyAre(t *testing.T) {
	n := roomy(parsed(t, everything))
	want := copied(n)
	other := copied(n)
	text := Text(n)
	Size(n)
	Same(n, other)
	Same(other, n)
	for _, x := range pointers(&n) {
		if room := x.Kids[:len(x.Kids)+1]; !equal(room[len(x.Kids)], use("behind")) {
			t.Fatalf("the room behind %s changed", drawn(*x, 0))
		}
	}
	wants(t, "the tree is as it was", equal(n, want), true)
	spoil(&n)
	wants(t, "the other tree is as it was", equal(other, want), true)
	wants(t, "what Text answered, its tree changed", text, plainText(want))
}

// No two lists of a tree share memory, nor does a text with what it was made of.
func TestTreesShareNoMemory(t *testing.T) {
	l := slices.Clone(tokensOf(everything))
	for i := range l {
		l[i].Text = strings.Clone(l[i].Text)
	}
	n, _, _ := Parse(l)
	m, _, _ := Parse(l)
	var lists [][]api.Node
	for _, x := range append(pointers(&n), pointers(&m)...) {
		if cap(x.Kids) > 0 {
			lists = append(lists, x.Kids[:cap(x.Kids)])
		}
		for _, y := range l {
			if sharesText(x.Text, y.Text) {
				t.Errorf("%s and its token share memory", drawn(*x, 0))
			}
		}
	}
	for i, a := range lists {
		for _, b := range lists[:i] {
			if sharesRoom(a, b) {
				t.Errorf("lists share memory: %d, %d Kids", len(a), len(b))
			}
		}
	}
	for _, x := range pointers(&n) {
		for _, y := range pointers(&n) {
			wants(t, "Text of "+drawn(*x, 0)+" shares memory", sharesText(Text(*x), y.Text), false)
		}
	}
}

// W2: what is answered hangs on the tokens alone

func TestTheSameTokensAreParsedAlike(t *testing.T) {
	r := rand.New(rand.NewSource(106))
	var all [][]api.Token
	for range 100 {
		l, _ := makeProgram(r, 40)
		if r.Intn(2) == 0 {
			l = slices.Insert(l, r.Intn(len(l)+1), others()[r.Intn(len(others()))])
		}
		all = append(all, l)
	}
	type told struct {
		tree, text string
		at         int
		err        api.Errno
	}
	tell := func(l []api.Token) told {
		n, at, err := Parse(l)
		return told{drawn(n, 0), Text(n), at, err}
	}
	var first []told
	for _, l := range all {
		first = append(first, tell(l))
	}
	for range 3 {
		for _, i := range r.Perm(len(all)) {
			wants(t, "Parse again of "+shown(all[i]), tell(all[i]), first[i])
		}
	}
}

// Bound: great programs

func TestGreatPrograms(t *testing.T) {
	const great = 1 << 16
	for _, s := range []string{
		strings.Repeat("func f ( ) { } ", great),
		"func f ( ) { " + strings.Repeat("a [ 1 ] = 2 ; ", great) + "}",
		"func f ( ) { f ( 1" + strings.Repeat(" , 1", great) + " ) ; }",
		"func f ( a int" + strings.Repeat(" , a int", great) + " ) ( int" + strings.Repeat(" , int", great) + " ) { }",
	} {
		l := tokensOf(s)
		n, at, err := Parse(l)
		if err != api.OK || at != len(l) || Text(n) != strings.ReplaceAll(strings.TrimSpace(s), "} func", "}\nfunc")+"\n" {
			t.Errorf("Parse of %s: %d, error %d", shown(l), at, err)
		}
	}
}

// What is built from the left is as deep as there are signs.
func TestDeepTrees(t *testing.T) {
	const deep = 1<<16 - 10
	for _, c := range []struct{ first, more, last, text string }{
		{"func f ( ) { print 1", " + 1", " ; }", "func f ( ) { print " + strings.Repeat("( ", deep) + "1" + strings.Repeat(" + 1 )", deep) + " ; }\n"},
		{"func f ( ) { print a", " [ 1 ]", " ; }", "func f ( ) { print a" + strings.Repeat(" [ 1 ]", deep) + " ; }\n"},
		{"func f ( ) { a", " . 1", " = 2 ; }", "func f ( ) { a" + strings.Repeat(" . 1", deep) + " = 2 ; }\n"},
	} {
		l := tokensOf(c.first + strings.Repeat(c.more, deep) + c.last)
		n, at, err := Parse(l)
		if err != api.OK || at != len(l) {
			t.Fatalf("Parse of %s: %d, error %d", shown(l), at, err)
		}
		wants(t, "Text of what is deep, "+shown(l), Text(n) == c.text, true)
		wants(t, "Size of what is deep", Size(n) > deep, true)
		m, _, _ := Parse(l)
		wants(t, "Same of what is deep", Same(n, m), true)
		x := &m.Kids[0].Kids[1].Kids[0]
		for range deep {
			x = &x.Kids[0]
		}
		x.Text += "x"
		wants(t, "Same of what differs deep within", Same(n, m), false)
	}
}

func TestGreatTexts(t *testing.T) {
	s := "func f ( ) { print 1" + strings.Repeat("+1", (api.MaxText-100)/2) + "; }"
	l, _, err := token.Lex(s)
	if err != api.OK {
		t.Fatalf("Lex: error %d", err)
	}
	n, _, err := Parse(l)
	if err != api.OK || Size(n) != len(l)-3 {
		t.Errorf("Parse: error %d, Size %d of %d tokens", err, Size(n), len(l))
	}
	refused(t, lexed(t, "func f(){print "+strings.Repeat("(", api.MaxText-100)), 6+99, api.ErrFull)
}
