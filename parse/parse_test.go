package parse

import (
	"math/rand"
	"slices"
	"strconv"
	"strings"
	"testing"
	"unsafe"

	"swage/api"
	"swage/token"
)

var kindNames = []string{
	api.NProgram: "Program", api.NFunc: "Func", api.NParam: "Param", api.NVoid: "Void", api.NInt: "Int",
	api.NPointer: "Pointer", api.NArray: "Array", api.NTuple: "Tuple", api.NBlock: "Block", api.NVar: "Var",
	api.NSet: "Set", api.NIf: "If", api.NFor: "For", api.NReturn: "Return", api.NPrint: "Print", api.NDo: "Do",
	api.NNumber: "Number", api.NUse: "Use", api.NBin: "Bin", api.NNeg: "Neg", api.NAt: "At", api.NAddr: "Addr",
	api.NIndex: "Index", api.NField: "Field", api.NCall: "Call", api.NNew: "New", api.NRead: "Read",
}

// drawn is a tree as a text: Kind, Text, At less base, Kids.
func drawn(n api.Node, base int) string {
	s := "Kind" + strconv.Itoa(n.Kind)
	if n.Kind > 0 && n.Kind < len(kindNames) {
		s = kindNames[n.Kind]
	}
	if n.Text != "" {
		s += " " + n.Text
	}
	s += "@" + strconv.Itoa(n.At-base)
	if len(n.Kids) == 0 {
		return s
	}
	var kids []string
	for _, kid := range n.Kids {
		kids = append(kids, drawn(kid, base))
	}
	return s + "(" + strings.Join(kids, ", ") + ")"
}

// shown is a row of tokens as a failure tells it.
func shown(l []api.Token) string {
	s := token.Join(l)
	for _, x := range l {
		if x.Kind < api.TokName || x.Kind > api.TokSign {
			s += " (Kind " + strconv.Itoa(x.Kind) + ")"
		}
	}
	if len(s) > 300 {
		s = s[:150] + " .. " + s[len(s)-150:]
	}
	return strconv.Quote(s)
}

func wants[T comparable](t *testing.T, what string, got, want T) {
	t.Helper()
	if got != want {
		t.Errorf("%s: %v; want %v", what, got, want)
	}
}

// lexed answers the tokens of a text.
func lexed(t *testing.T, s string) []api.Token {
	t.Helper()
	l, _, err := token.Lex(s)
	if err != api.OK {
		t.Fatalf("Lex(%q): error %d", s, err)
	}
	return l
}

// parsed answers the tree of a right text.
func parsed(t *testing.T, s string) api.Node {
	t.Helper()
	l := lexed(t, s)
	n, at, err := Parse(l)
	if err != api.OK || at != len(l) {
		t.Fatalf("Parse of %s: %d, error %d", shown(l), at, err)
	}
	return n
}

// refused fails the test if Parse does not tell that error at that token, and nothing beside it.
func refused(t *testing.T, l []api.Token, place int, want api.Errno) {
	t.Helper()
	n, at, err := Parse(l)
	if err != want || at != place || !equal(n, api.Node{}) {
		t.Errorf("Parse of %s: %d, error %d, %s; want %d, error %d", shown(l), at, err, drawn(n, 0), place, want)
	}
}

// equal tells whether two trees are alike, and stand alike.
func equal(a, b api.Node) bool {
	return a.Kind == b.Kind && a.Text == b.Text && a.At == b.At && slices.EqualFunc(a.Kids, b.Kids, equal)
}

// whole fails the test if the tree of a text is not that.
func whole(t *testing.T, s, want string) {
	t.Helper()
	wants(t, "Parse of "+s, drawn(parsed(t, s), 0), want)
}

// within fails the test if what stands in the text between head and tail is not that, where path leads in the tree.
func within(t *testing.T, head, s, tail, want string, path ...int) {
	t.Helper()
	n := parsed(t, head+s+tail)
	for _, i := range path {
		n = n.Kids[i]
	}
	wants(t, "Parse of "+s, drawn(n, len(head)), want)
}

// statement holds the tree of a statement against what it has to be, At counted from its beginning on.
func statement(t *testing.T, s, want string) {
	t.Helper()
	within(t, "func f() { ", s, " }", want, 0, 1, 0)
}

func expression(t *testing.T, s, want string) {
	t.Helper()
	within(t, "func f() { print ", s, "; }", want, 0, 1, 0, 0)
}

func typed(t *testing.T, s, want string) {
	t.Helper()
	within(t, "func f(a ", s, ") {}", want, 0, 0, 0)
	within(t, "func f() ", s, " {}", want, 0, 0)
	within(t, "func f() { var a ", s, "; }", want, 0, 1, 0, 0)
	within(t, "func f() { return new(", s, "); }", want, 0, 1, 0, 0, 0)
}

// P10.1: right programs

func TestExampleOfTheChapter(t *testing.T) {
	whole(t, "func f ( ) { print 1 + 2 * 3 ; }",
		"Program@0(Func f@0(Void@11, Block@11(Print@13(Bin +@19(Number 1@19, Bin *@23(Number 2@23, Number 3@27))))))")
}

func TestExampleOfTheWhole(t *testing.T) {
	whole(t, "func main() { var a [3]int; a[2] = read; print a[2] * 2; }", "Program@0(Func main@0(Void@12, Block@12("+
		"Var a@14(Array 3@20(Int@23)), "+
		"Set@28(Index@28(Use a@28, Number 2@30), Read@35), "+
		"Print@41(Bin *@47(Index@47(Use a@47, Number 2@49), Number 2@54)))))")
}

func TestNoToken(t *testing.T) {
	for _, l := range [][]api.Token{nil, {}, make([]api.Token, 0, 3)} {
		n, at, err := Parse(l)
		if err != api.OK || at != 0 || !equal(n, api.Node{Kind: api.NProgram}) {
			t.Errorf("Parse of nothing: %s, %d, error %d", drawn(n, 0), at, err)
		}
	}
	whole(t, " // nothing\n", "Program@0")
}

func TestFunctions(t *testing.T) {
	whole(t, "func f() {}", "Program@0(Func f@0(Void@9, Block@9))")
	whole(t, "  func f () { }", "Program@2(Func f@2(Void@12, Block@12))")
	whole(t, "func f(a int) int {}", "Program@0(Func f@0(Param a@7(Int@9), Int@14, Block@18))")
	whole(t, "func f(a int,b *int) {}", "Program@0(Func f@0(Param a@7(Int@9), Param b@13(Pointer@15(Int@16)), Void@21, Block@21))")
	whole(t, "func f(a int,a int,c int) (int) { }",
		"Program@0(Func f@0(Param a@7(Int@9), Param a@13(Int@15), Param c@19(Int@21), Tuple@26(Int@27), Block@32))")
	whole(t, "func f(){}func g(){}\nfunc f()int{}",
		"Program@0(Func f@0(Void@8, Block@8), Func g@10(Void@18, Block@18), Func f@21(Int@29, Block@32))")
}

func TestTypes(t *testing.T) {
	typed(t, "int", "Int@0")
	typed(t, "*int", "Pointer@0(Int@1)")
	typed(t, "**int", "Pointer@0(Pointer@1(Int@2))")
	typed(t, "[3]int", "Array 3@0(Int@3)")
	typed(t, "[0][12]int", "Array 0@0(Array 12@3(Int@7))")
	typed(t, "(int)", "Tuple@0(Int@1)")
	typed(t, "( int , int )", "Tuple@0(Int@2, Int@8)")
	typed(t, "(int,*int,[2]int)", "Tuple@0(Int@1, Pointer@5(Int@6), Array 2@10(Int@13))")
	typed(t, "((int),(int,int))", "Tuple@0(Tuple@1(Int@2), Tuple@7(Int@8, Int@12))")
	typed(t, "*[2](int,int)", "Pointer@0(Array 2@1(Tuple@4(Int@5, Int@9)))")
	typed(t, "[2]*(*int)", "Array 2@0(Pointer@3(Tuple@4(Pointer@5(Int@6))))")
}

func TestStatements(t *testing.T) {
	statement(t, "var a int;", "Var a@0(Int@6)")
	statement(t, "var b *[2]int ;", "Var b@0(Pointer@6(Array 2@7(Int@10)))")
	statement(t, "if a {}", "If@0(Use a@3, Block@5)")
	statement(t, "if a { print 1; } else { }", "If@0(Use a@3, Block@5(Print@7(Number 1@13)), Block@23)")
	statement(t, "if a {} else { if b {} else {} }", "If@0(Use a@3, Block@5, Block@13(If@15(Use b@18, Block@20, Block@28)))")
	statement(t, "if (a) { }", "If@0(Use a@4, Block@7)")
	statement(t, "for a {}", "For@0(Use a@4, Block@6)")
	statement(t, "for a<1 { for b { return; } }", "For@0(Bin <@4(Use a@4, Number 1@6), Block@8(For@10(Use b@14, Block@16(Return@18))))")
	statement(t, "return;", "Return@0")
	statement(t, "return 1 ;", "Return@0(Number 1@7)")
	statement(t, "return (a);", "Return@0(Use a@8)")
	statement(t, "print a;", "Print@0(Use a@6)")
	statement(t, "a = 1;", "Set@0(Use a@0, Number 1@4)")
	statement(t, "f();", "Do@0(Call f@0)")
	statement(t, "f ( a , 1 ) ;", "Do@0(Call f@0(Use a@4, Number 1@8))")
}

func TestSetOfAnyExpression(t *testing.T) {
	statement(t, "1 = 2;", "Set@0(Number 1@0, Number 2@4)")
	statement(t, "f() = g();", "Set@0(Call f@0, Call g@6)")
	statement(t, "a+b = c;", "Set@0(Bin +@0(Use a@0, Use b@2), Use c@6)")
	statement(t, "a==b = c==d;", "Set@0(Bin ==@0(Use a@0, Use b@3), Bin ==@7(Use c@7, Use d@10))")
	statement(t, "*p = &q;", "Set@0(At@0(Use p@1), Addr@5(Use q@6))")
	statement(t, "-f() = 1;", "Set@0(Neg@0(Call f@1), Number 1@7)")
	statement(t, "read = read;", "Set@0(Read@0, Read@7)")
	statement(t, "new(int) = 1;", "Set@0(New@0(Int@4), Number 1@11)")
	statement(t, "a[1].2 = 1;", "Set@0(Field 2@0(Index@0(Use a@0, Number 1@2)), Number 1@9)")
	statement(t, "f()[1] = 1;", "Set@0(Index@0(Call f@0, Number 1@4), Number 1@9)")
	statement(t, "(a) = (b);", "Set@0(Use a@1, Use b@7)")
	statement(t, "(f()) = 1;", "Set@0(Call f@1, Number 1@8)")
}

func TestCallAsAStatement(t *testing.T) {
	statement(t, "f(g());", "Do@0(Call f@0(Call g@2))")
	statement(t, "(f());", "Do@0(Call f@1)")
	statement(t, "((f(1)));", "Do@0(Call f@2(Number 1@4))")
}

func TestPrimaries(t *testing.T) {
	expression(t, "0", "Number 0@0")
	expression(t, "9223372036854775807", "Number 9223372036854775807@0")
	expression(t, "a", "Use a@0")
	expression(t, "f()", "Call f@0")
	expression(t, "f(1)", "Call f@0(Number 1@2)")
	expression(t, "f (1, a, (b))", "Call f@0(Number 1@3, Use a@6, Use b@10)")
	expression(t, "f(g(1),h())", "Call f@0(Call g@2(Number 1@4), Call h@7)")
	expression(t, "f(a+b,-c)", "Call f@0(Bin +@2(Use a@2, Use b@4), Neg@6(Use c@7))")
	expression(t, "new(int)", "New@0(Int@4)")
	expression(t, "new ( *int )", "New@0(Pointer@6(Int@7))")
	expression(t, "read", "Read@0")
	expression(t, "(1)", "Number 1@1")
	expression(t, "((a))", "Use a@2")
	expression(t, "(a+b)", "Bin +@1(Use a@1, Use b@3)")
	expression(t, "(-a)", "Neg@1(Use a@2)")
}

func TestOperands(t *testing.T) {
	expression(t, "-1", "Neg@0(Number 1@1)")
	expression(t, "*a", "At@0(Use a@1)")
	expression(t, "&a", "Addr@0(Use a@1)")
	expression(t, "-*&-a", "Neg@0(At@1(Addr@2(Neg@3(Use a@4))))")
	expression(t, "---1", "Neg@0(Neg@1(Neg@2(Number 1@3)))")
	expression(t, "-(-1)", "Neg@0(Neg@2(Number 1@3))")
	expression(t, "a[1]", "Index@0(Use a@0, Number 1@2)")
	expression(t, "a.0", "Field 0@0(Use a@0)")
	expression(t, "a [1] .2 [b] .3", "Field 3@0(Index@0(Field 2@0(Index@0(Use a@0, Number 1@3)), Use b@10))")
	expression(t, "a[b[c]]", "Index@0(Use a@0, Index@2(Use b@2, Use c@4))")
	expression(t, "a[b+1]", "Index@0(Use a@0, Bin +@2(Use b@2, Number 1@4))")
	expression(t, "a[(b)]", "Index@0(Use a@0, Use b@3)")
	expression(t, "-a[1].2", "Neg@0(Field 2@1(Index@1(Use a@1, Number 1@3)))")
	expression(t, "*a[1]", "At@0(Index@1(Use a@1, Number 1@3))")
	expression(t, "(*a)[1]", "Index@1(At@1(Use a@2), Number 1@5)")
	expression(t, "(a)[1]", "Index@1(Use a@1, Number 1@4)")
	expression(t, "((a)).1", "Field 1@2(Use a@2)")
	expression(t, "f(1)[2].3", "Field 3@0(Index@0(Call f@0(Number 1@2), Number 2@5))")
	expression(t, "new(int).1[read]", "Index@0(Field 1@0(New@0(Int@4)), Read@11)")
	expression(t, "1.2", "Field 2@0(Number 1@0)")
	expression(t, "read[1]", "Index@0(Read@0, Number 1@5)")
}

func TestSignsOfOneDepth(t *testing.T) {
	for _, row := range []string{"== != < <=", "+ - ^ |", "* / % & << >>"} {
		signs := strings.Fields(row)
		for _, x := range signs {
			expression(t, "a "+x+" b", "Bin "+x+"@0(Use a@0, Use b@"+strconv.Itoa(3+len(x))+")")
			for _, y := range signs {
				b := strconv.Itoa(3 + len(x))
				c := strconv.Itoa(6 + len(x) + len(y))
				expression(t, "a "+x+" b "+y+" c", "Bin "+y+"@0(Bin "+x+"@0(Use a@0, Use b@"+b+"), Use c@"+c+")")
			}
		}
	}
	expression(t, "a-b-c-d", "Bin -@0(Bin -@0(Bin -@0(Use a@0, Use b@2), Use c@4), Use d@6)")
	expression(t, "a-(b-c)-d", "Bin -@0(Bin -@0(Use a@0, Bin -@3(Use b@3, Use c@5)), Use d@8)")
	expression(t, "(a-b)-c", "Bin -@1(Bin -@1(Use a@1, Use b@3), Use c@6)")
	expression(t, "((a)<b)", "Bin <@2(Use a@2, Use b@5)")
}

func TestSignsOfThreeDepths(t *testing.T) {
	rows := [][]string{strings.Fields("== != < <="), strings.Fields("+ - ^ |"), strings.Fields("* / % & << >>")}
	for outer := range rows {
		for _, inner := range rows[outer+1:] {
			for _, x := range rows[outer] {
				for _, y := range inner {
					b, c := strconv.Itoa(3+len(x)), strconv.Itoa(6+len(x)+len(y))
					expression(t, "a "+x+" b "+y+" c", "Bin "+x+"@0(Use a@0, Bin "+y+"@"+b+"(Use b@"+b+", Use c@"+c+"))")
					b, c = strconv.Itoa(3+len(y)), strconv.Itoa(6+len(x)+len(y))
					expression(t, "a "+y+" b "+x+" c", "Bin "+x+"@0(Bin "+y+"@0(Use a@0, Use b@"+b+"), Use c@"+c+")")
				}
			}
		}
	}
	expression(t, "a<b+c*d", "Bin <@0(Use a@0, Bin +@2(Use b@2, Bin *@4(Use c@4, Use d@6)))")
	expression(t, "a*b+c<d", "Bin <@0(Bin +@0(Bin *@0(Use a@0, Use b@2), Use c@4), Use d@6)")
	expression(t, "(a<b)*c", "Bin *@1(Bin <@1(Use a@1, Use b@3), Use c@6)")
	expression(t, "a*(b<c)", "Bin *@0(Use a@0, Bin <@3(Use b@3, Use c@5))")
	expression(t, "-a*b", "Bin *@0(Neg@0(Use a@1), Use b@3)")
	expression(t, "a*-b", "Bin *@0(Use a@0, Neg@2(Use b@3))")
	expression(t, "a - -b", "Bin -@0(Use a@0, Neg@4(Use b@5))")
	expression(t, "a * *b", "Bin *@0(Use a@0, At@4(Use b@5))")
	expression(t, "a & &b", "Bin &@0(Use a@0, Addr@4(Use b@5))")
	expression(t, "-(a+b)", "Neg@0(Bin +@2(Use a@2, Use b@4))")
	expression(t, "a<b+c<d", "Bin <@0(Bin <@0(Use a@0, Bin +@2(Use b@2, Use c@4)), Use d@6)")
}

// Tokens that no Lex answers: names and numbers are what their Kinds say, and places are any.
func TestTokensOfAnyTextAndPlace(t *testing.T) {
	l := tokensOf("func NAME ( NAME [ 1 ] int ) { NAME = 1 ; }")
	texts := []string{"(", "", "007", "+ ;", "func"}
	for i, at := range []int{1, 3, 5, 10, 12} {
		l[at].Text = texts[i]
	}
	for i := range l {
		l[i].At = 100 - 7*i
	}
	n, at, err := Parse(l)
	want := "Program@100(Func (@100(Param@79(Array 007@72(Int@51)), Void@37, Block@37(Set@30(Use + ;@30, Number func@16))))"
	if got := drawn(n, 0); err != api.OK || at != len(l) || got != want {
		t.Errorf("Parse: %s, %d, error %d", got, at, err)
	}
}

// P10.1: wrong programs

func TestWhereItCannotGoOn(t *testing.T) {
	for _, c := range []struct {
		text  string
		place int
	}{
		{"func", 1}, {"a", 0}, {"func f", 2}, {"func f (", 3}, {"func f ( )", 4}, {"func f ( ) {", 5}, {"func f ( ) { } }", 6},
		{"func f ( ) { } 1", 6}, {"func f ( ) ;", 4}, {"func f ( ) int", 5}, {"func f ( ) int int { }", 5}, {"func f { }", 2},
		{"func f ( , ) { }", 3}, {"func f ( a ) { }", 4}, {"func f ( a int , ) { }", 6}, {"func f ( a int b int ) { }", 5}, {"func f ( int ) { }", 3},
		{"func f ( a int ; b int ) { }", 5}, {"func f ( 1 int ) { }", 3},
		{"func f ( ) ( ) { }", 5}, {"func f ( ) ( int , ) { }", 7}, {"func f ( ) ( int int ) { }", 6}, {"func f ( ) [ ] int { }", 5},
		{"func f ( ) [ a ] int { }", 5}, {"func f ( ) [ 1 int { }", 6}, {"func f ( ) [ 1 ] { }", 7}, {"func f ( ) * { }", 5}, {"func f ( ) a { }", 4},
		{"func f ( ) { var int ; }", 6}, {"func f ( ) { var a ; }", 7}, {"func f ( ) { var a int }", 8}, {"func f ( ) { var a int = 1 ; }", 8},
		{"func f ( ) { if { } }", 6}, {"func f ( ) { if a ; }", 7}, {"func f ( ) { if a { } else ; }", 10}, {"func f ( ) { if a { } else if b { } }", 10},
		{"func f ( ) { else { } }", 5}, {"func f ( ) { if a { } else { } else { } }", 12}, {"func f ( ) { for { } }", 6}, {"func f ( ) { for a ; b { } }", 7},
		{"func f ( ) { for a { } else { } }", 9},
		{"func f ( ) { return }", 6}, {"func f ( ) { return 1 }", 7}, {"func f ( ) { return 1 2 ; }", 7}, {"func f ( ) { print ; }", 6},
		{"func f ( ) { ; }", 5}, {"func f ( ) { { } }", 5}, {"func f ( ) { a ; }", 6}, {"func f ( ) { a = ; }", 7}, {"func f ( ) { a = 1 }", 8}, {"func f ( ) { a = b = c ; }", 8},
		{"func f ( ) { = 1 ; }", 5}, {"func f ( ) { 1 ; }", 6}, {"func f ( ) { read ; }", 6}, {"func f ( ) { new ( int ) ; }", 9}, {"func f ( ) { - f ( ) ; }", 9},
		{"func f ( ) { f ( ) + 1 ; }", 10}, {"func f ( ) { f ( ) [ 1 ] ; }", 11}, {"func f ( ) { f ( ) . 1 ; }", 10}, {"func f ( ) { f ( ) }", 8}, {"func f ( ) { ( a ) ; }", 8},
		{"func f ( ) { ( f ( ) ; }", 9}, {"func f ( ) { a + ; }", 7}, {"func f ( ) { print + a ; }", 6}, {"func f ( ) { print a b ; }", 7}, {"func f ( ) { print ( ) ; }", 7},
		{"func f ( ) { print a [ ] ; }", 8}, {"func f ( ) { print a [ 1 ; }", 9}, {"func f ( ) { print a . b ; }", 8}, {"func f ( ) { print a . ; }", 8},
		{"func f ( ) { f ( , ) ; }", 7}, {"func f ( ) { f ( 1 , ) ; }", 9}, {"func f ( ) { f ( 1 2 ) ; }", 8}, {"func f ( ) { print 1 ( ) ; }", 7}, {"func f ( ) { print read ( ) ; }", 7},
		{"func f ( ) { print new int ; }", 7}, {"func f ( ) { print new ( ) ; }", 8}, {"func f ( ) { print new ( a ) ; }", 8}, {"func f ( ) { print new ( int , int ) ; }", 9},
		{"func f ( ) { print f ( ) ( ) ; }", 9}, {"func f ( ) { func g ( ) { } }", 5}, {"func f ( ) { int = 1 ; }", 5},
	} {
		refused(t, tokensOf(c.text), c.place, api.ErrForm)
		wants(t, "Parse of what has another token behind, "+c.text, placeOf(tokensOf(c.text+" . 1")), c.place)
	}
}

func placeOf(l []api.Token) int {
	_, at, _ := Parse(l)
	return at
}

func TestWordsWhereANameHasToStand(t *testing.T) {
	for _, c := range []struct {
		text  string
		place int
	}{
		{"func NAME ( ) { }", 1},
		{"func f ( NAME int ) { }", 3},
		{"func f ( a int , NAME int ) { }", 6},
		{"func f ( ) { var NAME int ; }", 6},
	} {
		l := tokensOf(c.text)
		if n, at, err := Parse(l); err != api.OK || at != len(l) {
			t.Errorf("Parse of %s: %s, %d, error %d", c.text, drawn(n, 0), at, err)
		}
		for _, word := range strings.Fields(listedWords) {
			l[c.place].Text = word
			refused(t, l, c.place, api.ErrForm)
		}
	}
	for _, word := range strings.Fields("func var if else for return print int") { // new and read begin expressions
		refused(t, tokensOf("func f ( ) { print "+word+" ; }"), 6, api.ErrForm)
		refused(t, tokensOf("func f ( ) { a = "+word+" ( ) ; }"), 7, api.ErrForm)
	}
	refused(t, tokensOf("func f ( ) { print new ; }"), 7, api.ErrForm)
	refused(t, tokensOf("func f ( ) { print read a ; }"), 7, api.ErrForm)
}

// everything has each word, and each sign, in right places; of words and signs that may stand in many places, in some.
const everything = "func f ( a int , b * [ 2 ] ( int , int ) ) int { var c int ; if a == 1 { return ; } else { return a != 1 ; } for a < b { print a <= b ; } " +
	"a [ 1 ] . 2 = a << 1 >> 2 * 3 / 4 % 5 & 6 + 7 - 8 ^ 9 | 10 ; f ( - 1 , * b , & c ) ; a = ( read ) ; b = new ( int ) ; } func g ( ) { }"

func TestWordsAndSignsOfAnotherKind(t *testing.T) {
	right := tokensOf(everything)
	if _, at, err := Parse(right); err != api.OK {
		t.Fatalf("Parse: %d, error %d", at, err)
	}
	for i := range right {
		for _, kind := range []int{0, api.TokName, api.TokNumber, api.TokSign, 4, -1, api.MaxInt, api.MinInt} {
			l := slices.Clone(right)
			l[i].Kind = kind
			if kind != right[i].Kind {
				agrees(t, l)
			}
			if kind < api.TokName || kind > api.TokSign {
				refused(t, l, i, api.ErrForm)
			}
		}
	}
	for _, kind := range []int{0, 4, -1, api.MaxInt, api.MinInt} {
		refused(t, []api.Token{{Kind: kind}}, 0, api.ErrForm)
		refused(t, []api.Token{{Kind: kind, Text: "func"}}, 0, api.ErrForm)
	}
}

// agrees fails the test if Parse does not tell what is told plainly; it tells whether the tokens are a program.
func agrees(t *testing.T, l []api.Token) bool {
	t.Helper()
	n, at, err := Parse(l)
	wantAt, want := plainly(l)
	if at != wantAt || err != want {
		t.Fatalf("Parse of %s: %d, error %d; want %d, error %d", shown(l), at, err, wantAt, want)
	}
	if err != api.OK && !equal(n, api.Node{}) {
		t.Fatalf("Parse of %s: %s, beside error %d", shown(l), drawn(n, 0), err)
	}
	return err == api.OK
}

// others are tokens that may be put in: each word, each sign, and others.
func others() []api.Token {
	l := tokensOf(listedWords + " " + listedSigns + " a 1")
	return append(l, api.Token{}, api.Token{Kind: 4, Text: "("}, api.Token{Kind: api.TokSign}, api.Token{Kind: api.TokSign, Text: "func"},
		api.Token{Kind: api.TokName, Text: ")"}, api.Token{Kind: api.TokSign, Text: "&&"})
}

// eachWrong does l with one token left out, put in and turned into another, at each place, and cut at each place.
func eachWrong(t *testing.T, l []api.Token, others []api.Token) {
	t.Helper()
	for i := range len(l) + 1 {
		if agrees(t, l[:i]); i < len(l) {
			agrees(t, slices.Delete(slices.Clone(l), i, i+1))
		}
		for _, x := range others {
			agrees(t, slices.Insert(slices.Clone(l), i, x))
			if i < len(l) {
				agrees(t, slices.Replace(slices.Clone(l), i, i+1, x))
			}
		}
	}
}

func TestAnErrorAtEachPlace(t *testing.T) {
	eachWrong(t, tokensOf(everything), others())
	eachWrong(t, tokensOf("func f ( ) { print 1 + 2 * 3 ; }"), others())
	eachWrong(t, tokensOf("func f ( ) { if a { ( f ( ( 1 ) ) ) ; } else { for a { } } }"), others())
	eachWrong(t, nil, others())
}

func TestCutAtItsEnd(t *testing.T) {
	l := tokensOf("func f ( a int ) int { if a { return 1 ; } else { f ( 2 , 3 ) ; } a [ 1 ] . 1 = new ( ( int , int ) ) ; }")
	for i := 1; i < len(l); i++ {
		refused(t, l[:i], i, api.ErrForm)
	}
}

// grows does all rows of tokens that begin so, of up to that many more, of which only the last one may be wrong.
func grows(t *testing.T, l, others []api.Token, many int) {
	t.Helper()
	agrees(t, l)
	if many == 0 || placeOf(l) < len(l) {
		return
	}
	for _, x := range others {
		grows(t, append(slices.Clip(l), x), others, many-1)
	}
}

func TestAllRowsOfFewTokens(t *testing.T) {
	all := others()
	grows(t, nil, all, 6)
	grows(t, tokensOf("func f ( ) {"), all, 3)
	grows(t, tokensOf("func f ( ) { a ="), all, 3)
	grows(t, tokensOf("func f ( ) { }"), all, 4)
	grows(t, tokensOf("func f ( ) { a ="), tokensOf("1 a ( ) [ - ;"), 7)
	grows(t, tokensOf("func f ( ) {"), tokensOf("a ( ) = ; 1 }"), 7)
	grows(t, tokensOf("func f ( ) {"), tokensOf("if else a { } ( )"), 8)
	grows(t, tokensOf("func f ("), tokensOf("a int , ) ( [ 2 ] * { }"), 8)
}

func TestManyPrograms(t *testing.T) {
	r := rand.New(rand.NewSource(10))
	for round := range 800 {
		l, want := makeProgram(r, round/4)
		n, at, err := Parse(l)
		if err != api.OK || at != len(l) || !equal(n, want) {
			t.Fatalf("Parse of %s: %d, error %d, %s; want %s", shown(l), at, err, drawn(n, 0), drawn(want, 0))
		}
		agrees(t, l)
		again(t, n)
		all := others()
		for range 20 {
			wrong := slices.Clone(l)
			for range 1 + r.Intn(2) {
				i := r.Intn(len(wrong) + 1)
				wrong = slices.Replace(wrong, i, min(len(wrong), i+r.Intn(2)), all[r.Intn(len(all))])
			}
			agrees(t, wrong)
		}
	}
}

// P10.1: depth

// nest is what stands in itself: behind head stands something of that depth, each open comes one deeper; at that token of it (from 0 on) the deeper thing begins.
type nest struct {
	head  string
	depth int
	open  string
	first int
	inner string // what is fine in any depth
	shut  string
	tail  string
}

func nestedTypes() []nest {
	var l []nest
	for _, x := range []nest{
		{head: "func f ( )", depth: 1, tail: "{ }"},
		{head: "func f ( a", depth: 1, tail: ") { }"},
		{head: "func f ( a int , b", depth: 1, tail: ") int { }"},
		{head: "func f ( ) { var a", depth: 2, tail: "; }"},
		{head: "func f ( ) { if 1 { var a", depth: 3, tail: "; } }"},
		{head: "func f ( ) { print new (", depth: 3, tail: ") ; }"},
		{head: "func f ( ) { return - new (", depth: 4, tail: ") ; }"},
		{head: "func f ( ) { a = 1 + ( 2 * new (", depth: 4, tail: ") ) ; }"},
	} {
		for _, y := range []nest{
			{open: "*", first: 1},
			{open: "[ 2 ]", first: 3},
			{open: "(", first: 1, shut: ")"},
			{open: "( int ,", first: 1, shut: ")"},
			{open: "(", first: 1, shut: ", int )"},
		} {
			l = append(l, nest{x.head, x.depth, y.open, y.first, "int", y.shut, x.tail})
		}
	}
	return l
}

func nestedExpressions() []nest {
	var l []nest
	for _, x := range []nest{
		{head: "func f ( ) { print", depth: 2, tail: "; }"},
		{head: "func f ( ) { return", depth: 2, tail: "; }"},
		{head: "func f ( ) { a =", depth: 2, tail: "; }"},
		{head: "func f ( ) {", depth: 2, tail: "= 1 ; }"},
		{head: "func f ( ) { if", depth: 2, tail: "{ } }"},
		{head: "func f ( ) { for", depth: 2, tail: "{ } }"},
		{head: "func f ( ) { if 1 { } else { for 1 { f (", depth: 5, tail: ") ; } } }"},
		{head: "func f ( ) { f ( 1 , - a [", depth: 5, tail: "] ) ; }"},
		{head: "func f ( ) { ( f ( ( 1 ) ,", depth: 4, tail: ") ) ; }"},
		{head: "func f ( ) { a < b + c *", depth: 2, tail: "* d + e < f = 1 ; }"},
	} {
		for _, y := range []nest{
			{open: "(", first: 1, shut: ")"},
			{open: "a [", first: 2, shut: "]"},
			{open: "f (", first: 2, shut: ")"},
			{open: "f ( 1 ,", first: 2, shut: ", 2 )"},
			{open: "f ( ) [", first: 4, shut: "]"},
			{open: "-", first: 1},
			{open: "*", first: 1},
			{open: "&", first: 1},
			{open: "(", first: 1, shut: ") + 3"},
			{open: "1 . 2 [", first: 4, shut: "] . 3 . 4"},
		} {
			l = append(l, nest{x.head, x.depth, y.open, y.first, "1", y.shut, x.tail})
		}
	}
	return append(l, nest{"func f ( ) {", 2, "(", 1, "f ( )", ")", "; }"})
}

// A statement's condition is one deeper than it, so that one at MaxNest has none.
func nestedStatements() []nest {
	var l []nest
	for _, x := range []nest{
		{head: "func f ( ) {", depth: 1, tail: "}"},
		{head: "func f ( ) int { } func g ( ) { a = 1 ; if a { } else {", depth: 2, tail: "return ; } f ( ) ; }"},
	} {
		for _, y := range []nest{
			{open: "if a {", first: 1, shut: "}"},
			{open: "if a { } else {", first: 1, shut: "}"},
			{open: "if a {", first: 1, shut: "} else { return ; }"},
			{open: "for a {", first: 1, shut: "}"},
			{open: "return ; for a {", first: 3, shut: "} return ;"},
		} {
			l = append(l, nest{x.head, x.depth, y.open, y.first, "return ;", y.shut, x.tail}, nest{x.head, x.depth, y.open, y.first, "", y.shut, x.tail})
		}
	}
	return l
}

// full answers all tokens, the inner ones in that depth.
func (x nest) full(depth int) []api.Token {
	many := depth - x.depth
	return tokensOf(x.head + strings.Repeat(" "+x.open, many) + " " + x.inner + strings.Repeat(" "+x.shut, many) + " " + x.tail)
}

// deep fails the test if x is not fine up to MaxNest, and told to be full where one more begins, whatever stands there.
func (x nest) deep(t *testing.T) {
	t.Helper()
	for _, depth := range []int{x.depth, x.depth + 1, x.depth + 2, api.MaxNest - 1, api.MaxNest} {
		wants(t, shown(x.full(depth))+" is fine", agrees(t, x.full(depth)), true)
	}
	many := api.MaxNest - x.depth
	place := len(tokensOf(x.head)) + many*len(tokensOf(x.open)) + x.first
	for _, more := range []int{1, 2, 50, 1000} {
		refused(t, x.full(api.MaxNest+more), place, api.ErrFull)
	}
	but := ""
	if strings.HasPrefix(x.open, "f (") && x.first == 2 { // there may be no argument
		but = ")"
	}
	whatever(t, x.full(api.MaxNest + 1)[:place], but)
}

// whatever fails the test if the end of these tokens is not where something too deep begins, whatever stands there, but for some.
func whatever(t *testing.T, l []api.Token, but ...string) {
	t.Helper()
	refused(t, l, len(l), api.ErrFull)
	for _, x := range others() {
		if (x.Kind == api.TokName || x.Kind == api.TokSign) && slices.Contains(but, x.Text) {
			continue
		}
		refused(t, append(slices.Clip(l), x), len(l), api.ErrFull)
		refused(t, append(slices.Clip(l), x, x, x), len(l), api.ErrFull)
	}
}

func TestDeepTypes(t *testing.T) {
	for _, x := range nestedTypes() {
		x.deep(t)
	}
}

func TestDeepExpressions(t *testing.T) {
	for _, x := range nestedExpressions() {
		x.deep(t)
	}
}

func TestDeepStatements(t *testing.T) {
	for _, x := range nestedStatements() {
		x.deep(t)
	}
}

// inDepth answers tokens that come to a statement of that depth, with more behind them.
func inDepth(depth int, more string) []api.Token {
	return tokensOf("func f ( ) {" + strings.Repeat(" if a {", depth-1) + " " + more)
}

func TestStatementsAtMaxNest(t *testing.T) {
	shut := strings.Repeat(" }", api.MaxNest)
	for _, s := range []string{"", "return ;", "return ; return ;"} {
		wants(t, s+" is fine at MaxNest", agrees(t, inDepth(api.MaxNest, s+shut)), true)
	}
	for _, s := range []string{"if", "for", "print", "var a", "return ; print"} {
		whatever(t, inDepth(api.MaxNest, s))
	}
	whatever(t, inDepth(api.MaxNest, "return"), ";")
	whatever(t, inDepth(api.MaxNest, ""), "}", "var", "if", "for", "return", "print")
	whatever(t, inDepth(api.MaxNest, "return ;"), "}", "var", "if", "for", "return", "print")
	for _, s := range []string{"var", "var ;", "var int"} { // it has not come to the type yet
		refused(t, inDepth(api.MaxNest, s), len(inDepth(api.MaxNest, "var")), api.ErrForm)
	}
	less := strings.Repeat(" }", api.MaxNest-1)
	for _, s := range []string{"a = 1 ;", "f ( ) ;", "var a int ;", "if 1 { }", "for a { return ; }", "if a { return ; } else { }", "print read ;", "return a . 1 + b * c < 2 ;"} {
		wants(t, s+" is fine at MaxNest less 1", agrees(t, inDepth(api.MaxNest-1, s+less)), true)
	}
	for _, s := range []string{"f (", "f ( ) = (", "var a *", "var a (", "if -", "for a [", "print new (", "return &"} {
		but := ""
		if s == "f (" {
			but = ")"
		}
		whatever(t, inDepth(api.MaxNest-1, s), but)
	}
}

// In an expression at MaxNest nothing may stand in anything, but all that has its own depth may.
func TestExpressionsAtMaxNest(t *testing.T) {
	head := "func f ( ) { print" + strings.Repeat(" (", api.MaxNest-2)
	tail := strings.Repeat(" )", api.MaxNest-2) + " ; }"
	for _, s := range []string{"1", "a", "read", "f ( )", "a . 1 . 2", "1 + 2 + 3", "a < b + c * d", "f ( ) * g ( ) . 3 == 1"} {
		wants(t, s+" is fine at MaxNest", agrees(t, tokensOf(head+" "+s+tail)), true)
	}
	for _, s := range []string{"(", "-", "*", "&", "a [", "a . 1 [", "new (", "1 + (", "1 * -", "a < b + c * &", "f ( ) ["} {
		whatever(t, tokensOf(head+" "+s))
	}
	whatever(t, tokensOf(head+" f ("), ")")
	for _, s := range []string{"", "1 +", "1 <", "a *"} { // what has its own depth is not too deep
		refused(t, tokensOf(head+" "+s+" ;"), len(tokensOf(head+" "+s)), api.ErrForm)
		refused(t, tokensOf(head+" "+s), len(tokensOf(head+" "+s)), api.ErrForm)
	}
}

func TestTypesAtMaxNest(t *testing.T) {
	head := "func f ( )" + strings.Repeat(" *", api.MaxNest-1)
	wants(t, "int is fine at MaxNest", agrees(t, tokensOf(head+" int { }")), true)
	for _, s := range []string{"*", "[ 1 ]", "("} {
		whatever(t, tokensOf(head+" "+s))
	}
	refused(t, tokensOf(head+" { }"), api.MaxNest+3, api.ErrForm)
	refused(t, tokensOf(head+" [ int"), api.MaxNest+4, api.ErrForm)
	refused(t, tokensOf(head+" [ 1 int"), api.MaxNest+5, api.ErrForm)
	refused(t, tokensOf(head), api.MaxNest+3, api.ErrForm)
}

// What is one behind the other is not deep.
func TestLongIsNotDeep(t *testing.T) {
	long := func(s string) string { return strings.Repeat(s, 10*api.MaxNest) }
	for _, s := range []string{
		long("func f ( ) { } "),
		"func f ( a int" + long(" , a int") + " ) { }",
		"func f ( ) ( int" + long(" , int") + " ) { }",
		"func f ( ) {" + long(" a = 1 ; if a { f ( ) ; }") + " }",
		"func f ( ) { print 1" + long(" + 1 * 2") + " ; }",
		"func f ( ) { print a" + long(" [ 1 ] . 2") + " ; }",
		"func f ( ) { f ( 1" + long(" , ( 1 )") + " ) ; }",
	} {
		wants(t, s[:30]+" .. is fine", agrees(t, tokensOf(s)), true)
	}
}

func TestDepthsAmongOneAnother(t *testing.T) {
	r := rand.New(rand.NewSource(100))
	opens := []struct{ open, shut string }{{"(", ")"}, {"a [", "]"}, {"f (", ")"}, {"-", ""}, {"*", ""}, {"&", ""}, {"1 + 2 * (", ") < 3"},
		{"f ( a , b ,", ", c )"}, {"read . 1 [", "] . 2 [ 3 ]"}, {"( - f ( ) )  [", "] == new ( * int )"}, {"- 1 * -", "- 2"}}
	fine := 0
	for range 800 {
		head, tail := "func f ( )", ""
		statements := r.Intn(api.MaxNest)
		for range statements {
			head += " { " + []string{"if a", "for a", "if a { } else", "b = 1 ; if c"}[r.Intn(4)]
			tail = " }" + tail
		}
		head += " { a = 1 * "
		tail = " + 2 ; }" + tail
		for range max(0, api.MaxNest-statements-r.Intn(8)+2) {
			x := opens[r.Intn(len(opens))]
			head += " " + x.open
			tail = " " + x.shut + tail
		}
		if agrees(t, tokensOf(head+" 1 "+tail)) {
			fine++
		}
	}
	if fine < 100 || fine > 700 {
		t.Errorf("%d of these are fine", fine)
	}
}

// P10.2

func TestWords(t *testing.T) {
	for _, s := range []string{"func", "var", "if", "else", "for", "return", "print", "new", "read", "int"} {
		wants(t, "Word of "+s, Word(s), true)
		for _, other := range []string{s + "s", "_" + s, s + " ", " " + s, strings.ToUpper(s), s[1:], s[:len(s)-1], s + s, s + "\x00"} {
			wants(t, "Word of "+other, Word(other), false)
		}
	}
	for _, s := range []string{"", "a", "main", "void", "byte", "type", "func main", "while", "(", "==", "0", "1", "\xff"} {
		wants(t, "Word of "+s, Word(s), false)
	}
}

func TestWordsHoldOfNames(t *testing.T) {
	for _, s := range strings.Fields(listedWords + " a b f main x1 _ Int funcs") {
		_, _, err := Parse(tokensOf("func " + s + " ( ) { }"))
		wants(t, s+" is a name", err == api.OK, !Word(s))
	}
}

// sharesText tells whether two texts have a byte of memory in common.
func sharesText(a, b string) bool {
	if a == "" || b == "" {
		return false
	}
	x, y := uintptr(unsafe.Pointer(unsafe.StringData(a))), uintptr(unsafe.Pointer(unsafe.StringData(b)))
	return x < y+uintptr(len(b)) && y < x+uintptr(len(a))
}

// sharesRoom tells whether two lists have memory in common.
func sharesRoom(a, b []api.Node) bool {
	const size = unsafe.Sizeof(api.Node{})
	x, y := uintptr(unsafe.Pointer(unsafe.SliceData(a))), uintptr(unsafe.Pointer(unsafe.SliceData(b)))
	return x < y+size*uintptr(len(b)) && y < x+size*uintptr(len(a))
}
