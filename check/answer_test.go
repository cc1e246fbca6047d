package check

import (
	"slices"
	"strconv"
	"strings"
	"testing"

	"swage/api"
)

// drawer writes what is answered as a text, up to a greatest length.
type drawer struct {
	b    strings.Builder
	most int
}

func (d *drawer) full() bool { return d.b.Len() > d.most }

func (d *drawer) put(l ...string) {
	for _, s := range l {
		d.b.WriteString(s)
	}
}

// typed writes a type; of one that is none all that is in it.
func (d *drawer) typed(t api.Type) {
	many := len(t.Kids)
	switch {
	case d.full():
		d.put("..")
	case t.Kind == api.TyInt && many == 0 && t.Count == 0:
		d.put("int")
	case t.Kind == api.TyPointer && many == 1 && t.Count == 0:
		d.put("*")
		d.typed(t.Kids[0])
	case t.Kind == api.TyArray && many == 1:
		d.put("[", strconv.Itoa(t.Count), "]")
		d.typed(t.Kids[0])
	default:
		if t.Kind != api.TyTuple || t.Count != 0 {
			d.put("?", strconv.Itoa(t.Kind), "/", strconv.Itoa(t.Count))
		}
		d.put("(")
		for i, kid := range t.Kids {
			if i > 0 {
				d.put(",")
			}
			d.typed(kid)
		}
		d.put(")")
	}
}

func isNone(t api.Type) bool { return t.Kind == 0 && t.Count == 0 && len(t.Kids) == 0 }

func (d *drawer) tree(t api.Tree) {
	d.put(kindName(t.Kind))
	if t.Num != 0 {
		d.put("#", strconv.Itoa(t.Num))
	}
	if !isNone(t.Type) {
		d.put(":")
		d.typed(t.Type)
	}
	if len(t.Kids) == 0 {
		return
	}
	d.put("{")
	for i, kid := range t.Kids {
		if d.full() {
			d.put("..")
			break
		}
		if i > 0 {
			d.put(" ")
		}
		d.tree(kid)
	}
	d.put("}")
}

func (d *drawer) proc(x api.Proc) {
	d.put(x.Name, "/", strconv.Itoa(x.Params), " ")
	for i, t := range x.Vars {
		d.typed(t)
		if i < len(x.Held) && x.Held[i] {
			d.put("!")
		}
		d.put(" ")
	}
	if len(x.Held) != len(x.Vars) {
		d.put(strconv.Itoa(len(x.Held)), " held ")
	}
	d.put("-> ")
	if !isNone(x.Result) {
		d.typed(x.Result)
		d.put(" ")
	}
	d.tree(x.Body)
	d.put("\n")
}

// drawn is all that is answered, as a text.
func drawn(l []api.Proc) string {
	d := drawer{most: 1 << 24}
	for _, x := range l {
		d.proc(x)
	}
	return d.b.String()
}

// answers fails the test if something else is answered than that, a line a function.
func answers(t *testing.T, s string, lines ...string) {
	t.Helper()
	want := strings.Join(lines, "\n") + "\n"
	if got := drawn(fits(t, s)); got != want {
		t.Errorf("Check of %s:\n%swant\n%s", s, got, want)
	}
}

// P12.4: what is answered

func TestAnswerOfTheWhole(t *testing.T) {
	answers(t, "func main() { var a [3]int; a[2] = read; print a[2] * 2; }",
		"main/0 [3]int! -> block{var:[3]int set{index#1:int{use:[3]int number#2:int} read:int} print{bin#3:int{index#1:int{use:[3]int number#2:int} number#2:int}}}")
}

func TestOrderOfFunctions(t *testing.T) {
	const empty = " -> block"
	answers(t, "func main() {}", "main/0"+empty)
	answers(t, "func main() {} func f() {} func g() {}", "main/0"+empty, "f/0"+empty, "g/0"+empty)
	answers(t, "func f() {} func main() {} func g() {}", "main/0"+empty, "f/0"+empty, "g/0"+empty)
	answers(t, "func f() {} func g() {} func main() {}", "main/0"+empty, "f/0"+empty, "g/0"+empty)
	answers(t, "func g() {} func h() {} func main() {} func f() {} func a() {}",
		"main/0"+empty, "g/0"+empty, "h/0"+empty, "f/0"+empty, "a/0"+empty)
	for _, main := range []int{0, 1, 100, api.MaxFuncs - 2, api.MaxFuncs - 1} {
		l := strings.SplitAfter(strings.TrimSpace(functions(api.MaxFuncs-1)), "\n")
		all := fits(t, strings.Join(slices.Insert(l, main, "func main() {}\n"), ""))
		for i, x := range all {
			want := "f" + strconv.Itoa(i-1)
			if i == 0 {
				want = "main"
			}
			wants(t, "name of the function at "+strconv.Itoa(i), x.Name, want)
		}
	}
}

// Calls tell which function it is among those that are answered, main being the first.
func TestWhichFunctionIsCalled(t *testing.T) {
	calls := "f(); g(); h(); main();"
	body := "block{do{call#1} do{call#2} do{call#3} do{call}}"
	answers(t, "func f() { "+calls+" } func g() { "+calls+" } func main() { "+calls+" } func h() { "+calls+" }",
		"main/0 -> "+body, "f/0 -> "+body, "g/0 -> "+body, "h/0 -> "+body)
	answers(t, "func main() { "+calls+" } func f() {} func g() {} func h() {}",
		"main/0 -> "+body, "f/0 -> block", "g/0 -> block", "h/0 -> block")
	answers(t, "func f() {} func g() {} func h() { "+calls+" } func main() {}",
		"main/0 -> block", "f/0 -> block", "g/0 -> block", "h/0 -> "+body)
}

func TestFunctions(t *testing.T) {
	answers(t, "func f(a int, p *int, r *[3]int) int { return a; } func g() *(int, *int) {} func main() {}",
		"main/0 -> block",
		"f/3 int *int *[3]int -> int block{return{use:int}}",
		"g/0 -> *(int,*int) block")
	answers(t, "func f(a int) { var b int; if a { var c *int; } var a2 [2]int; return; } func main() { var x int; }",
		"main/0 int -> block{var:int}",
		"f/1 int int *int [2]int! -> block{var#1:int if{use:int block{var#2:*int}} var#3:[2]int return}")
	answers(t, "func main() {} func f("+listed("a", api.MaxArgs, " int")+") { print a7; }",
		"main/0 -> block",
		"f/8 "+strings.Repeat("int ", 8)+"-> block{print{use#7:int}}")
}

func TestStatements(t *testing.T) {
	head := "func main() { var a int; var b *int; "
	of := func(s, body string) {
		t.Helper()
		answers(t, head+s+" }", "main/0 int *int -> block{var:int var#1:*int"+body+"}")
	}
	of("", "")
	of("a = 5;", " set{use:int number#5:int}")
	of("b = new(int);", " set{use#1:*int new#1:*int}")
	of("*b = a;", " set{at:int{use#1:*int} use:int}")
	of("if a {}", " if{use:int block}")
	of("if a {} else {}", " if{use:int block block}")
	of("if a { print 1; } else { print 2; a = 3; }", " if{use:int block{print{number#1:int}} block{print{number#2:int} set{use:int number#3:int}}}")
	of("for a { if 1 {} }", " for{use:int block{if{number#1:int block}}}")
	of("return;", " return")
	of("print a;", " print{use:int}")
	of("main();", " do{call}")
	of("(main());", " do{call}")
}

func TestWhichVariable(t *testing.T) {
	answers(t, "func main() {} func f(a int, b *int) { print a; print *b; var c int; print c; if a { print *b; var a *int; print *a; if c { var c int; print c; } print c; var b int; print b; } else { print *b; var b int; print b; } var d int; print a + *b + c + d; }",
		"main/0 -> block",
		"f/2 int *int int *int int int int int -> block{print{use:int} print{at:int{use#1:*int}} var#2:int print{use#2:int} "+
			"if{use:int block{print{at:int{use#1:*int}} var#3:*int print{at:int{use#3:*int}} if{use#2:int block{var#4:int print{use#4:int}}} print{use#2:int} var#5:int print{use#5:int}} "+
			"block{print{at:int{use#1:*int}} var#6:int print{use#6:int}}} var#7:int "+
			"print{bin#1:int{bin#1:int{bin#1:int{use:int at:int{use#1:*int}} use#2:int} use#7:int}}}")
	answers(t, "func main() { for 1 { var a int; } var a [2]int; for 2 { var a *int; a = new(int); } print a[1]; }",
		"main/0 int [2]int! *int -> block{for{number#1:int block{var:int}} var#1:[2]int for{number#2:int block{var#2:*int set{use#2:*int new#1:*int}}} print{index#1:int{use#1:[2]int number#1:int}}}")
}

func TestValues(t *testing.T) {
	head := "func one(a int, p *int) int { return a; } func main() { var a int; var p *int; var q **int; "
	of := func(s, value string) {
		t.Helper()
		answers(t, head+"print "+s+"; }", "main/0 int *int **int -> block{var:int var#1:*int var#2:**int print{"+value+"}}",
			"one/2 int *int -> int block{return{use:int}}")
	}
	of("0", "number:int")
	of("9223372036854775807", "number#9223372036854775807:int")
	of("a", "use:int")
	of("-a", "neg:int{use:int}")
	of("- - 3", "neg:int{neg:int{number#3:int}}")
	of("*p", "at:int{use#1:*int}")
	of("**q", "at:int{at:*int{use#2:**int}}")
	of("read", "read:int")
	of("one(1, p)", "call#1:int{number#1:int use#1:*int}")
	of("one(one(2, *q), new(int))", "call#1:int{call#1:int{number#2:int at:*int{use#2:**int}} new#1:*int}")
	of("p == *q", "bin#13:int{use#1:*int at:*int{use#2:**int}}")
	of("q != new(*int)", "bin#14:int{use#2:**int new#1:**int}")
	of("*new(int)", "at:int{new#1:*int}")
	of("(*new([7]int))[3]", "index#1:int{at:[7]int{new#7:*[7]int} number#3:int}")
	of("(*new((int, [2]int, *int))).2 == p", "bin#13:int{field#3:*int{at:(int,[2]int,*int){new#4:*(int,[2]int,*int)}} use#1:*int}")
	for i, sign := range signs() {
		of("a "+sign+" 1", "bin#"+strconv.Itoa(i+1)+":int{use:int number#1:int}")
		of("1 "+sign+" (a "+sign+" *p)", "bin#"+strconv.Itoa(i+1)+":int{number#1:int bin#"+strconv.Itoa(i+1)+":int{use:int at:int{use#1:*int}}}")
	}
}

func TestNumbersOfParts(t *testing.T) {
	head := "func main() { var a [2][3]int; var b (int, [3]int, (int, *int), *[9]int); var c [4](int, int); var d *[5](int, int, int); "
	of := func(s, value string) {
		t.Helper()
		answers(t, head+"print "+s+"; }", "main/0 [2][3]int! (int,[3]int,(int,*int),*[9]int)! [4](int,int)! *[5](int,int,int) -> block{var:[2][3]int var#1:(int,[3]int,(int,*int),*[9]int) var#2:[4](int,int) var#3:*[5](int,int,int) print{"+value+"}}")
	}
	b := "use#1:(int,[3]int,(int,*int),*[9]int)"
	of("a[0][1]", "index#1:int{index#3:[3]int{use:[2][3]int number:int} number#1:int}")
	of("b.0", "field:int{"+b+"}")
	of("b.1[2]", "index#1:int{field#1:[3]int{"+b+"} number#2:int}")
	of("b.2.0", "field:int{field#4:(int,*int){"+b+"}}")
	of("*b.2.1", "at:int{field#1:*int{field#4:(int,*int){"+b+"}}}")
	of("(*b.3)[8]", "index#1:int{at:[9]int{field#6:*[9]int{"+b+"}} number#8:int}")
	of("c[3].1", "field#1:int{index#2:(int,int){use#2:[4](int,int) number#3:int}}")
	of("(*d)[2].2", "field#2:int{index#3:(int,int,int){at:[5](int,int,int){use#3:*[5](int,int,int)} number#2:int}}")
	of("d == new([5](int, int, int))", "bin#13:int{use#3:*[5](int,int,int) new#15:*[5](int,int,int)}")
}

func TestGreatNumbers(t *testing.T) {
	l := fits(t, "func main() { var a [2][524288]int; print a[1][2]; print (*new(([1048575]int, int))).1; print (*new([1048576]int))[0]; print *new(*[1048576]int) == new([1048576]int); }")
	kids := l[0].Body.Kids
	wants(t, "cells of a part of an array", kids[1].Kids[0].Kids[0].Num, 524288)
	wants(t, "cells ahead of a part of a tuple", kids[2].Kids[0].Num, 1048575)
	wants(t, "cells of a new tuple", kids[2].Kids[0].Kids[0].Kids[0].Num, api.MaxCells)
	wants(t, "cells of a new array", kids[3].Kids[0].Kids[0].Kids[0].Num, api.MaxCells)
	wants(t, "cells of a new pointer", kids[4].Kids[0].Kids[0].Kids[0].Num, 1)
}

// held fails the test if other variables are held than those of which a letter stands at their place.
func held(t *testing.T, s, want string) {
	t.Helper()
	for _, x := range fits(t, s) {
		if x.Name != "f" {
			continue
		}
		var is strings.Builder
		for _, h := range x.Held {
			if h {
				is.WriteByte('h')
			} else {
				is.WriteByte('-')
			}
		}
		wants(t, "what is held in "+s, is.String(), want)
	}
}

func TestHeld(t *testing.T) {
	// a int, p *int, q **int, r [2]int, s (int, *int), u *[2]int, v *(int, int)
	for _, c := range []struct{ body, want string }{
		{"", "---hh--"},
		{"a = 1; p = *q; print a + *p; r[0] = a; s.0 = a; s.1 = p; (*u)[1] = a; (*v).0 = a;", "---hh--"},
		{"p = &a;", "h--hh--"},
		{"p = &(a);", "h--hh--"},
		{"q = &p;", "-h-hh--"},
		{"print q == &p;", "-h-hh--"},
		{"q = &p; p = &a;", "hh-hh--"},
		{"print *&*&*&a;", "h--hh--"},
		{"print *&q == q;", "--hhh--"},
		{"p = &*p;", "---hh--"}, // through a pointer
		{"p = &**q;", "---hh--"},
		{"q = &*q;", "---hh--"},
		{"p = &(*u)[0];", "---hh--"},
		{"p = &(*u)[a];", "---hh--"},
		{"u = &*u;", "---hh--"},
		{"p = &(*v).1;", "---hh--"},
		{"p = &r[a];", "---hh--"}, // an index is no place of the variable's
		{"p = &r[*p];", "---hh--"},
		{"p = &r[*&a];", "h--hh--"},
		{"u = &r;", "---hh--"},
		{"p = &s.0;", "---hh--"},
		{"q = &s.1;", "---hh--"},
		{"p = &*s.1;", "---hh--"},
		{"if a { p = &a; }", "h--hh--"},
		{"if a { } else { for a { p = &a; } }", "h--hh--"},
		{"return; p = &a;", "h--hh--"},
		{"g(&a, a);", "h--hh--"},
		{"g(p, *&*p);", "---hh--"},
		{"g(p, *&*&a);", "h--hh--"},
		{"print -(1 + *&a);", "h--hh--"},
		{"print *new(int); p = new(int);", "---hh--"},
	} {
		s := "func g(a *int, b int) {} func main() {} func f(a int, p *int, q **int) { var r [2]int; var s (int, *int); var u *[2]int; var v *(int, int); " + c.body + " }"
		held(t, s, c.want)
		held(t, strings.Replace(s, "func f(a int, p *int, q **int) {", "func f() { var a int; var p *int; var q **int;", 1), c.want)
	}
	held(t, "func main() {} func f() { var a [1]int; var b (int); var c ((int), [2](int)); var d *[1]int; var e *(int); var g int; }", "hhh---")
}

// Of names that hide others the one that is meant is held.
func TestHeldOfOneName(t *testing.T) {
	held(t, "func main() {} func f(a int) { if 1 { var a int; print *&a; } }", "-h")
	held(t, "func main() {} func f(a int) { if 1 { var a int; a = 1; } print *&a; }", "h-")
	held(t, "func main() {} func f(a int) { if 1 { print *&a; var a int; } }", "h-")
	held(t, "func main() {} func f(a int) { if 1 { var a int; if 1 { var a int; print *&a; } } }", "--h")
	held(t, "func main() { var a int; print *&a; } func f(a int) { print a; }", "-")
	held(t, "func f(a int) { print a; } func main() { var a int; print *&a; }", "-")
	held(t, "func f(a int) { print *&a; } func main() { var a int; print a; f(a); }", "h")
	held(t, "func main() {} func f(a int, b int) { var c int; var d int; print *&b + *&d; }", "-h-h")
}

// P12.5: Op

func TestOp(t *testing.T) {
	want := []int{api.Add, api.Sub, api.Mul, api.Div, api.Rem, api.And, api.Or, api.Xor, api.Shl, api.Shr, api.Lt, api.Le, api.Eq, api.Ne}
	for i, sign := range signs() {
		if op, is := Op(sign); op != want[i] || !is {
			t.Errorf("Op of %s: %d, %v; want %d, true", sign, op, is, want[i])
		}
	}
	none := append(strangeTexts(), "(", ")", "{", "}", "[", "]", ",", ";", ".", "//", "%%", "^^", "~", "<-", "&^", "add", "\xff")
	for _, sign := range signs() {
		none = append(none, sign+" ", " "+sign, sign+"+", sign+sign+sign)
	}
	for _, s := range none {
		if op, is := Op(s); op != 0 || is {
			t.Errorf("Op of %q: %d, %v; want 0, false", s, op, is)
		}
	}
}

func TestOpOfAllShortTexts(t *testing.T) {
	known := map[string]int{}
	for i, sign := range signs() {
		known[sign] = i + 1
	}
	see := func(s string) {
		op, is := Op(s)
		if want := known[s]; op != want || is != (want > 0) {
			t.Fatalf("Op of %q: %d, %v; want %d", s, op, is, want)
		}
	}
	see("")
	for a := range 256 {
		see(string([]byte{byte(a)}))
		for b := range 256 {
			see(string([]byte{byte(a), byte(b)}))
		}
	}
}
