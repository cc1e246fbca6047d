package check

import (
	"math/big"
	"strconv"
	"strings"
	"testing"

	"swage/api"
	"swage/token"
)

// P12.3: expressions

// signs are those of the operations, in the order of these.
func signs() []string {
	return strings.Fields("+ - * / % & | ^ << >> < <= == !=")
}

func strangeTexts() []string {
	return []string{"", " ", "=", "!", ">", ">=", "<>", "<<<", "+ ", " +", "++", "-+", "&&", "||", "===", "+\x00", "a", "1", "é", "(", "*/"}
}

// texts fails the test if of a program something else is told, when the Text of a node is something else.
func texts(t *testing.T, s string, place func(*api.Node) *api.Node, texts []string, want api.Errno) {
	t.Helper()
	n := parsed(t, s)
	x := place(&n)
	for _, text := range texts {
		x.Text = text
		if want == api.OK {
			fitsTree(t, s+" with "+strconv.Quote(text), n)
		} else {
			refusedTree(t, s+" with "+strconv.Quote(text), n, x.At, want)
		}
	}
}

// printed tells where what main prints first stands.
func printed(n *api.Node) *api.Node { return &n.Kids[0].Kids[1].Kids[0].Kids[0] }

func strangeNumbers() []string {
	return []string{"", " ", "00", "01", "-1", "+1", "1 ", " 1", "1a", "a", "0x1", "1_0", "1.0", "٣", "1\x00",
		"9223372036854775808", "9223372036854775810", "18446744073709551616", "18446744073709551617", strings.Repeat("9", 40)}
}

func TestNumbers(t *testing.T) {
	inValue(t, []told{{"0", api.OK}, {"1", api.OK}, {"9223372036854775807", api.OK}, {"(7)", api.OK}})
	texts(t, "func main() { print 1; }", printed, []string{"0", "7", "10", "1234567890123456789", "9223372036854775807"}, api.OK)
	texts(t, "func main() { print 1; }", printed, strangeNumbers(), api.ErrType)
	inMain(t, []told{
		{"@p = 1;", api.ErrType},
		{"print @*1;", api.ErrType},
		{"print @1[0];", api.ErrType},
		{"print @1.0;", api.ErrType},
		{"print @&1;", api.ErrType},
	})
}

func TestUses(t *testing.T) {
	inValue(t, []told{
		{"a", api.OK},
		{"b", api.OK},
		{"@x", api.ErrNone},
		{"@A", api.ErrNone},
		{"@aa", api.ErrNone},
		{"@zero", api.ErrNone},
		{"@main", api.ErrNone},
		{"(@x)", api.ErrNone},
	})
	s := "func main() { var a int; a = a; }"
	texts(t, s, func(n *api.Node) *api.Node { return &n.Kids[0].Kids[1].Kids[1].Kids[0] }, []string{"", " ", "a ", "b", "main", "int", "A", "\x00"}, api.ErrNone)
	n := parsed(t, s)
	for _, text := range strangeTexts() { // one name is as good as another one
		block := n.Kids[0].Kids[1].Kids
		block[0].Text, block[1].Kids[0].Text, block[1].Kids[1].Text = text, text, text
		fitsTree(t, "a variable "+strconv.Quote(text), n)
	}
}

func TestSignsOfNumbers(t *testing.T) {
	for _, sign := range signs() {
		inValue(t, []told{
			{"a " + sign + " b", api.OK},
			{"1 " + sign + " read", api.OK},
			{"(a " + sign + " b) " + sign + " *p", api.OK},
			{"@a " + sign + " p", api.ErrType},
			{"@p " + sign + " a", api.ErrType},
			{"@p " + sign + " 0", api.ErrType},
			{"@a " + sign + " r", api.ErrType},
			{"@r " + sign + " a", api.ErrType},
			{"@r " + sign + " r", api.ErrType}, // no values
			{"@t " + sign + " t", api.ErrType},
			{"@s[0] " + sign + " s[0]", api.ErrType},
			{"@*pr " + sign + " *pr", api.ErrType},
			{"@t " + sign + " 1", api.ErrType},
			{"@p " + sign + " pp", api.ErrType},
			{"@pp " + sign + " p", api.ErrType},
			{"@pr " + sign + " pt", api.ErrType},
			{"@p " + sign + " r", api.ErrType},
			{"@x " + sign + " p", api.ErrNone},
			{"a " + sign + " @x", api.ErrNone},
			{"p " + sign + " @x", api.ErrNone},
			{"@x " + sign + " y", api.ErrNone},
			{"@none() " + sign + " a", api.ErrType},
			{"a " + sign + " @none()", api.ErrType},
			{"1 + (@p " + sign + " a)", api.ErrType},
			{"1 + -(@p " + sign + " a)", api.ErrType},
		})
	}
}

func TestSignsOfPointers(t *testing.T) {
	for _, sign := range signs() {
		err := api.ErrType
		if sign == "==" || sign == "!=" {
			err = api.OK
		}
		pairs := []string{"p %% q", "p %% &a", "&a %% &b", "new(int) %% p", "pp %% &p", "pr %% &r", "pr %% new([3]int)",
			"pt %% new((int, *int))", "t.1 %% p", "rp[0] %% *pp", "ptr(p) %% p", "(p) %% (q)", "new([2](int)) %% new([2](int))"}
		for _, pair := range pairs {
			at := "@"
			if err == api.OK {
				at = ""
			}
			if strings.HasPrefix(pair, "(") { // of a "(" that of what is in it
				pair, at = "("+at+pair[1:], ""
			}
			inValue(t, []told{{at + strings.Replace(pair, "%%", sign, 1), err}})
		}
	}
	inValue(t, []told{
		{"@new([2]int) == new([3]int)", api.ErrType},
		{"@new((int, int)) == new([2]int)", api.ErrType},
		{"@new((int)) == new(int)", api.ErrType},
		{"@new((int, *int)) != new((*int, int))", api.ErrType},
		{"@new((int, int)) != new((int, int, int))", api.ErrType},
		{"@new(***int) == new(**int)", api.ErrType},
		{"(p == q) == (a == b)", api.OK},
		{"(@p == q) == p", api.ErrType},
	})
}

func TestStrangeSigns(t *testing.T) {
	place := printed
	texts(t, "func main() { print 1 + 2; }", place, strangeTexts(), api.ErrType)
	texts(t, "func main() { print new(int) == new(int); }", place, strangeTexts(), api.ErrType)
	texts(t, "func main() { print 1 + 2; }", place, signs(), api.OK)
}

func TestNegated(t *testing.T) {
	inValue(t, []told{
		{"-a", api.OK},
		{"-1", api.OK},
		{"--a", api.OK},
		{"-*p", api.OK},
		{"-(p == q)", api.OK},
		{"-zero()", api.OK},
		{"@-p", api.ErrType},
		{"@-r", api.ErrType},
		{"@-t", api.ErrType},
		{"@-&a", api.ErrType},
		{"-@-p", api.ErrType},
		{"-@none()", api.ErrType},
		{"-@x", api.ErrNone},
		{"a + @-p", api.ErrType},
	})
}

func TestWhatPointersPointTo(t *testing.T) {
	inValue(t, []told{
		{"*p", api.OK},
		{"**pp", api.OK},
		{"*ptr(p)", api.OK},
		{"*new(int)", api.OK},
		{"*&a", api.OK},
		{"*t.1", api.OK},
		{"*rp[0]", api.OK},
		{"(*pr)[0]", api.OK},
		{"(*pt).0", api.OK},
		{"*(*pt).1", api.OK},
		{"(*arr(pr))[1]", api.OK},
		{"(*new((int, int))).1", api.OK},
		{"@*a", api.ErrType},
		{"@**p", api.ErrType},
		{"@*r", api.ErrType},
		{"@*t", api.ErrType},
		{"@*1", api.ErrType},
		{"@*zero()", api.ErrType},
		{"*@*a", api.ErrType},
		{"*@x", api.ErrNone},
		{"*@none()", api.ErrType},
		{"@pr[0]", api.ErrType}, // a pointer is no array
		{"@pt.0", api.ErrType},
	})
	inMain(t, []told{
		{"p = *pp;", api.OK},
		{"@p = *p;", api.ErrType},
		{"print @*pp;", api.ErrType},
		{"print @*pr;", api.ErrType},
	})
}

func TestAddresses(t *testing.T) {
	inMain(t, []told{
		{"p = &a;", api.OK},
		{"pp = &p;", api.OK},
		{"p = &*p;", api.OK},
		{"p = &r[0];", api.OK},
		{"p = &s[a][b];", api.OK},
		{"pr = &r;", api.OK},
		{"pr = &s[1];", api.OK},
		{"pr = &*pr;", api.OK},
		{"p = &(*pr)[2];", api.OK},
		{"p = &t.0;", api.OK},
		{"pp = &t.1;", api.OK},
		{"p = &t.2[1];", api.OK},
		{"p = &u.0.1;", api.OK},
		{"p = &(*pt).0;", api.OK},
		{"pp = &rp[0];", api.OK},
		{"p = &(a);", api.OK},
		{"p = &((r)[1]);", api.OK},
		{"p = &*&*&a;", api.OK},
		{"p = &*new(int);", api.OK},
		{"p = &*ptr(p);", api.OK},
		{"p = @&1;", api.ErrType},
		{"p = @&read;", api.ErrType},
		{"p = @&zero();", api.ErrType},
		{"pp = @&ptr(p);", api.ErrType},
		{"pp = @&new(int);", api.ErrType},
		{"pp = @&&a;", api.ErrType},
		{"p = @&-a;", api.ErrType},
		{"p = @&(a + b);", api.ErrType},
		{"p = @&(-a);", api.ErrType},
		{"p = @&(p == q);", api.ErrType},
		{"p = &@x;", api.ErrNone},
		{"p = &@*a;", api.ErrType},
		{"p = &r[@x];", api.ErrNone},
		{"p = &@none();", api.ErrType},
		{"@p = &p;", api.ErrType},
		{"@pp = &a;", api.ErrType},
		{"@p = &r;", api.ErrType},
		{"@a = &a;", api.ErrType},
	})
	refused(t, "func main() { print *&@x; }", api.ErrNone) // where there is no variable at all
	refused(t, "func main() { print *&@x[0]; }", api.ErrNone)
}

func TestIndexed(t *testing.T) {
	inValue(t, []told{
		{"r[0]", api.OK},
		{"r[a]", api.OK},
		{"r[-1]", api.OK},
		{"r[3]", api.OK}, // that it is beyond the array is told by who runs it
		{"r[r[r[0]]]", api.OK},
		{"s[1][2]", api.OK},
		{"s[a][b]", api.OK},
		{"*rp[1]", api.OK},
		{"t.2[0]", api.OK},
		{"(*pr)[1]", api.OK},
		{"r[p == q]", api.OK},
		{"r[zero()]", api.OK},
		{"(r)[(1)]", api.OK},
		{"@a[0]", api.ErrType},
		{"@p[0]", api.ErrType},
		{"@pr[0]", api.ErrType},
		{"@t[0]", api.ErrType},
		{"@1[0]", api.ErrType},
		{"@zero()[0]", api.ErrType},
		{"@arr(pr)[0]", api.ErrType},
		{"@read[0]", api.ErrType},
		{"@new([3]int)[0]", api.ErrType},
		{"(@&r)[0]", api.ErrType},
		{"(@r + 1)[0]", api.ErrType},
		{"@r[0][0]", api.ErrType},
		{"@s[0][0][0]", api.ErrType},
		{"@r[p]", api.ErrType},
		{"@r[r]", api.ErrType},
		{"@r[t]", api.ErrType},
		{"@r[&a]", api.ErrType},
		{"@r[s[0]]", api.ErrType},
		{"@s[p][0]", api.ErrType},
		{"@s[0][p]", api.ErrType},
		{"@x[0]", api.ErrNone},
		{"r[@x]", api.ErrNone},
		{"@x[y]", api.ErrNone},
		{"a[@x]", api.ErrNone},
		{"r[@none()]", api.ErrType},
		{"@none()[0]", api.ErrType},
	})
	inMain(t, []told{
		{"print @s[0];", api.ErrType},
		{"print @rp[0];", api.ErrType},
		{"@s[0] = s[1];", api.ErrType},
	})
}

func TestFields(t *testing.T) {
	inValue(t, []told{
		{"t.0", api.OK},
		{"*t.1", api.OK},
		{"t.2[1]", api.OK},
		{"u.0.0", api.OK},
		{"u.0.1", api.OK},
		{"u.1", api.OK},
		{"(*pt).0", api.OK},
		{"(t).0", api.OK},
		{"@t.3", api.ErrType},
		{"@t.4", api.ErrType},
		{"@t.9223372036854775807", api.ErrType},
		{"@u.2", api.ErrType},
		{"@u.0.2", api.ErrType},
		{"@a.0", api.ErrType},
		{"@p.0", api.ErrType},
		{"@r.0", api.ErrType}, // an array is no tuple
		{"@r.1", api.ErrType},
		{"@s[0].0", api.ErrType},
		{"@pt.0", api.ErrType},
		{"@1.0", api.ErrType},
		{"@zero().0", api.ErrType},
		{"@read.0", api.ErrType},
		{"@new((int, int)).0", api.ErrType},
		{"(@&t).0", api.ErrType},
		{"(@-a).0", api.ErrType},
		{"@t.0.0", api.ErrType},
		{"@x.0", api.ErrNone},
		{"r[@x].0", api.ErrNone},
		{"@none().0", api.ErrType},
	})
	inMain(t, []told{
		{"print @t.1;", api.ErrType},
		{"print @u.0;", api.ErrType},
	})
	s := "func main() { var t (int, int, int, int, int, int, int, int, int, int, int); print t.1; }"
	place := func(n *api.Node) *api.Node { return &n.Kids[0].Kids[1].Kids[1].Kids[0] }
	texts(t, s, place, []string{"0", "1", "5", "9", "10"}, api.OK)
	texts(t, s, place, append(strangeNumbers(), "11", "12", "64", "100", "9223372036854775807", "4294967296"), api.ErrType)
	most := strconv.Itoa(api.MaxFields)
	fits(t, "func main() { var t "+wideType(api.MaxFields)+"; print t.63; }")
	refused(t, "func main() { var t "+wideType(api.MaxFields)+"; print @t."+most+"; }", api.ErrType)
}

func TestCalls(t *testing.T) {
	inValue(t, []told{
		{"zero()", api.OK},
		{"one(1)", api.OK},
		{"one(one(one(a)))", api.OK},
		{"one(a == b)", api.OK},
		{"*ptr(p)", api.OK},
		{"*ptr(&a)", api.OK},
		{"*ptr(ptr(new(int)))", api.OK},
		{"(*arr(&r))[0]", api.OK},
		{"@last2() + 1", api.ErrNone},
		{"@f()", api.ErrNone},
		{"@a()", api.ErrNone},
		{"@Zero()", api.ErrNone},
		{"@f(1, p)", api.ErrNone},
		{"@zero(1)", api.ErrType},
		{"@one()", api.ErrType},
		{"@one(1, 2)", api.ErrType},
		{"@one(p)", api.ErrType},
		{"@one(r)", api.ErrType},
		{"*@ptr(1)", api.ErrType},
		{"*@ptr(pp)", api.ErrType},
		{"*@ptr(a, p)", api.ErrType},
		{"@arr(p)", api.ErrType},
		{"@arr(r)", api.ErrType},
		{"@arr(new([2]int))", api.ErrType},
		{"@none()", api.ErrType}, // of no result
		{"@two(1, p)", api.ErrType},
		{"@main()", api.ErrType},
		{"@last(1)", api.ErrType},
		{"one(@none())", api.ErrType},
		{"one(@x)", api.ErrNone}, // arguments first
		{"f(@x)", api.ErrNone},
		{"f(@*a)", api.ErrType},
		{"zero(@x)", api.ErrNone},
		{"one(1, @x)", api.ErrNone},
		{"one(p, @x)", api.ErrNone},
		{"two(@x, y)", api.ErrNone},
		{"f(@g())", api.ErrNone},
		{"f(@g(), h())", api.ErrNone},
	})
	inMain(t, []told{
		{"two(1, p);", api.OK},
		{"two(a, &b);", api.OK},
		{"@two(1);", api.ErrType},
		{"@two(1, p, 1);", api.ErrType},
		{"@two(p, 1);", api.ErrType},
		{"@two(1, 1);", api.ErrType},
		{"@two(p, p);", api.ErrType},
		{"@two();", api.ErrType},
		{"two(@x, y);", api.ErrNone},
		{"two(1, @y);", api.ErrNone},
	})
}

func TestCallsOfOneAnother(t *testing.T) {
	fits(t, "func main() { f(1); } func f(a int) { g(&a); } func g(a *int) { if *a { f(*a - 1); } else { main(); } }")
	fits(t, "func main() { print f(3); } func f(a int) int { if a { return f(a - 1); } return 0; }")
	full := listed("a", api.MaxArgs, " int")
	fits(t, "func main() { f(1, 2, 3, 4, 5, 6, 7, 8); } func f("+full+") {}")
	refused(t, "func main() { @f(1, 2, 3, 4, 5, 6, 7); } func f("+full+") {}", api.ErrType)
	refused(t, "func main() { @f(1, 2, 3, 4, 5, 6, 7, 8, 9); } func f("+full+") {}", api.ErrType)
	refused(t, "func main() { @f(1, 2, 3, 4, 5, 6, 7, new(int)); } func f("+full+") {}", api.ErrType)
	refused(t, "func f(a int) { var b *int; @f(b); } func main() { }", api.ErrType) // variables are no parameters
	refused(t, "func f(a int) { var b int; @f(a, b); } func main() { }", api.ErrType)
	refused(t, "func main() { @f(1, 2); } func f(a int) { var b int; }", api.ErrType)
	refused(t, "func f(a int) { var b int; } func main() { @f(1, 2); }", api.ErrType)
	fits(t, "func f(a int) { var b int; } func main() { f(1); }")
}

func TestNew(t *testing.T) {
	most, more := strconv.Itoa(api.MaxCells), strconv.Itoa(api.MaxCells+1)
	inMain(t, []told{
		{"p = new(int);", api.OK},
		{"pp = new(*int);", api.OK},
		{"pr = new([3]int);", api.OK},
		{"pt = new((int, *int));", api.OK},
		{"print new([" + most + "]int) == new([" + most + "]int);", api.OK},
		{"print *new(" + deepType(90) + ") == *new(" + deepType(90) + ");", api.OK},
		{"print (*new(" + wideType(api.MaxFields) + ")).63;", api.OK},
		{"@p = new(*int);", api.ErrType},
		{"@a = new(int);", api.ErrType},
		{"print @new(int);", api.ErrType},
		{"p = new(@[0]int);", api.ErrFull},
		{"p = new(@[" + more + "]int);", api.ErrFull},
		{"p = new(@*[0]int);", api.ErrFull},
		{"p = new(@" + wideType(api.MaxFields+1) + ");", api.ErrFull},
		{"print -new(@(int, [0]int));", api.ErrFull},
		{"two(new(@[0]int), x);", api.ErrFull},
	})
}

// A pointer to a type that is as deep as can be is no right one, thus none of a scalar's type, but points to what it points to.
func TestPointersToTheDeepest(t *testing.T) {
	deepest := deepType(api.MaxNest)
	head := "func main() {} func f(a " + deepest + ", b " + deepest + ") { "
	tells(t, head, " }", []told{
		{"a = b;", api.OK},
		{"a = *&b;", api.OK},
		{"print a == b;", api.OK},
		{"print *&a == *&b;", api.OK},
		{"print @&a == &b;", api.ErrType},
		{"@*&a = &b;", api.ErrType},
		{"@f(&a, b);", api.ErrType},
	})
}

func TestRead(t *testing.T) {
	inValue(t, []told{{"read", api.OK}, {"-read", api.OK}, {"read + read", api.OK}, {"r[read]", api.OK}, {"@*read", api.ErrType}})
	inMain(t, []told{{"@p = read;", api.ErrType}, {"@read = read;", api.ErrType}})
}

// Of Texts that say nothing, and places of any number, nothing hangs.
func TestTextsThatDoNotMatter(t *testing.T) {
	s := strings.Replace(world, "func main()", "func main() { } func other(i int)", 1) +
		"a = -1 + *p; p = &r[0]; pr = new([3]int); if a { two(read, q); } else { return; } for b { print zero(); }" + whatFollows
	n := parsed(t, s)
	want := fitsTree(t, s, n)
	each(&n, func(x *api.Node) {
		switch x.Kind {
		case api.NFunc, api.NParam, api.NVar, api.NArray, api.NNumber, api.NUse, api.NBin, api.NField, api.NCall:
		default:
			x.Text = "text"
		}
		x.At = -7 * x.At
	})
	wants(t, "Same with other Texts and places", Same(fitsTree(t, "other Texts", n), want), true)
}

// each goes over a node and all that is in it.
func each(n *api.Node, visit func(*api.Node)) {
	visit(n)
	for i := range n.Kids {
		each(&n.Kids[i], visit)
	}
}

// Number is held against the chapter's words elsewhere; here numbers of all sizes come to what they are.
func TestWhatNumbersComeTo(t *testing.T) {
	n := parsed(t, "func main() { print 1; }")
	for bits := range 70 {
		for _, more := range []int64{-1, 0, 1} {
			x := new(big.Int).Add(new(big.Int).Lsh(big.NewInt(1), uint(bits)), big.NewInt(more))
			printed(&n).Text = x.String()
			if _, is := token.Number(x.String()); is != x.IsInt64() {
				t.Fatalf("Number of %v", x)
			}
			if !x.IsInt64() {
				refusedTree(t, x.String(), n, printed(&n).At, api.ErrType)
				continue
			}
			l := fitsTree(t, x.String(), n)
			wants(t, "what "+x.String()+" comes to", l[0].Body.Kids[0].Kids[0].Num, int(x.Int64()))
		}
	}
}
