package check

import (
	"slices"
	"strings"
	"testing"

	"swage/api"
	"swage/parse"
)

// leaves are expressions without others in them.
func leaves() []api.Node {
	var l []api.Node
	for _, name := range strings.Fields("a p q r s t u x") {
		l = append(l, api.Node{Kind: api.NUse, Text: name})
	}
	for _, name := range strings.Fields("zero none one x") {
		l = append(l, api.Node{Kind: api.NCall, Text: name})
	}
	integer := api.Node{Kind: api.NInt}
	array := api.Node{Kind: api.NArray, Text: "2", Kids: []api.Node{integer}}
	return append(l, api.Node{Kind: api.NNumber, Text: "1"}, api.Node{Kind: api.NNumber, Text: "01"}, api.Node{Kind: api.NRead},
		api.Node{Kind: api.NNew, Kids: []api.Node{integer}}, api.Node{Kind: api.NNew, Kids: []api.Node{array}})
}

// singles are expressions with that one in them.
func singles(x api.Node) []api.Node {
	var l []api.Node
	for _, kind := range []int{api.NNeg, api.NAt, api.NAddr} {
		l = append(l, api.Node{Kind: kind, Kids: []api.Node{x}})
	}
	for _, text := range []string{"0", "1", "2", "x"} {
		l = append(l, api.Node{Kind: api.NField, Text: text, Kids: []api.Node{x}})
	}
	for _, name := range strings.Fields("one ptr zero none act") {
		l = append(l, api.Node{Kind: api.NCall, Text: name, Kids: []api.Node{x}})
	}
	return l
}

// doubles are expressions with these two in them.
func doubles(x, y api.Node) []api.Node {
	l := []api.Node{{Kind: api.NIndex, Kids: []api.Node{x, y}}, {Kind: api.NCall, Text: "two", Kids: []api.Node{x, y}}}
	for _, sign := range []string{"+", "<=", "==", "!=", "="} {
		l = append(l, api.Node{Kind: api.NBin, Text: sign, Kids: []api.Node{x, y}})
	}
	return l
}

// oneDeep are all expressions with leaves in them.
func oneDeep() []api.Node {
	var l []api.Node
	for _, x := range leaves() {
		l = append(l, singles(x)...)
		for _, y := range leaves() {
			l = append(l, doubles(x, y)...)
		}
	}
	return l
}

const smallWorld = `func zero() int {} func none() {} func one(a int) int {} func ptr(p *int) *int {} func two(a int, p *int) int {} func act(a int) {}
func main() { var a int; var p *int; var q **int; var r [2]int; var s (int, *int, [2]int); var t *[2]int; var u *(int, *int); `

// smallProgram answers a program and where in it a statement is that is still to come.
func smallProgram(t *testing.T) (api.Node, *api.Node) {
	n := parsed(t, smallWorld+"return; }")
	main := &n.Kids[len(n.Kids)-1]
	block := main.Kids[len(main.Kids)-1].Kids
	return n, &block[len(block)-1]
}

// statementsOf are statements with an expression in them.
func statementsOf(x api.Node) []api.Node {
	l := []api.Node{
		{Kind: api.NPrint, Kids: []api.Node{x}},
		{Kind: api.NSet, Kids: []api.Node{x, {Kind: api.NUse, Text: "a"}}},
		{Kind: api.NSet, Kids: []api.Node{{Kind: api.NUse, Text: "p"}, x}},
	}
	if x.Kind == api.NCall {
		l = append(l, api.Node{Kind: api.NDo, Kids: []api.Node{x}})
	}
	return l
}

func TestAllSmallExpressions(t *testing.T) {
	t.Parallel()
	n, place := smallProgram(t)
	good := 0
	see := func(statement api.Node) {
		*place = copied(statement)
		placed(&n)
		if _, err := agrees(t, n); err == api.OK {
			good++
		}
	}
	for _, x := range slices.Concat(leaves(), oneDeep()) {
		for _, statement := range statementsOf(x) {
			see(statement)
		}
		for _, y := range singles(x) {
			see(statementsOf(y)[0])
		}
	}
	if good < 200 {
		t.Errorf("only %d of them fit", good)
	}
}

// faults are statements of which something is told that the statement itself says, in a block of smallWorld.
func faults() []told {
	return []told{
		{"print @x;", api.ErrNone},
		{"@y();", api.ErrNone},
		{"@a = p;", api.ErrType},
		{"print @p;", api.ErrType},
		{"if @p {}", api.ErrType},
		{"for @q {}", api.ErrType},
		{"@return 1;", api.ErrType},
		{"var a1 @[0]int;", api.ErrFull},
		{"var a2 int; @var a2 int;", api.ErrTwice},
		{"p = new(@[0]int);", api.ErrFull},
		{"print @r[p];", api.ErrType},
		{"print @s.3;", api.ErrType},
		{"print @&1 == p;", api.ErrType},
		{"print -(@p + 1);", api.ErrType},
		{"one(@none());", api.ErrType},
		{"@one(p);", api.ErrType},
	}
}

// Of two things that do not fit the first one is told, whatever it is.
func TestWhichOfTwoIsTold(t *testing.T) {
	for _, x := range faults() {
		for _, y := range faults() {
			first, second := x.text, strings.Replace(y.text, "@", "", 1)
			refused(t, smallWorld+first+second+" }", x.err)
			refused(t, smallWorld+"if a { "+first+" } else { "+second+" } }", x.err)
			refused(t, smallWorld+"for a { "+first+" } "+second+" }", x.err)
			refused(t, smallWorld+first+" } func other() { var a int; var p *int; "+second+" }", x.err)
			before := strings.Replace(smallWorld, "func main() {", "func first() { var a int; var p *int; var q **int; var r [2]int; var s (int, int, int); "+first+" } func main() {", 1)
			refused(t, before+second+" }", x.err)
		}
	}
}

// heads are what is told of functions ahead of all bodies.
func headFaults() []told {
	return []told{
		{"@func none() {}", api.ErrTwice},
		{"@func main(a int) {}", api.ErrTwice},
		{"func g1(a int, @a int) {}", api.ErrTwice},
		{"func g2(a @[0]int) {}", api.ErrFull},
		{"func g3(a @[2]int) {}", api.ErrType},
		{"func g4() @*[0]int {}", api.ErrFull},
		{"func g5() @(int) {}", api.ErrType},
		{"func g6(" + listed("a", api.MaxArgs, " int") + ", @b int) {}", api.ErrFull},
	}
}

func TestWhichHeadIsTold(t *testing.T) {
	for _, x := range headFaults() {
		for _, y := range headFaults() {
			refused(t, smallWorld+"} "+x.text+strings.Replace(y.text, "@", "", 1), x.err)
		}
		for _, y := range faults() {
			body := strings.Replace(y.text, "@", "", 1)
			refused(t, smallWorld+body+" } "+x.text, x.err)
			refused(t, smallWorld+body+" } func other() {} "+x.text+" func none() {}", x.err)
			refused(t, strings.Replace(smallWorld, "main()", "main() int", 1)+body+" } "+x.text, x.err)
		}
	}
	for _, y := range faults() {
		body := strings.Replace(y.text, "@", "", 1)
		refused(t, strings.Replace(smallWorld, "func main()", "@func main(a int)", 1)+body+" }", api.ErrType)
		refused(t, "@"+strings.Replace(smallWorld, "func main()", "func other()", 1)+body+" }", api.ErrNone)
	}
}

// P12.7: a function more

func TestAFunctionMore(t *testing.T) {
	seen := 0
	for n := range fittingPrograms(3000) {
		want, _, _ := Check(n)
		if len(want) == api.MaxFuncs {
			continue
		}
		seen++
		for _, s := range []string{"func more() {}", "func more(a int, b *(int, [2]int)) *int { var c int; if c { more(a, b); main(); } return &c; }"} {
			more := copied(n)
			more.Kids = append(more.Kids, parsed(t, s+" func main() {}").Kids[0])
			l, at, err := Check(more)
			if err != api.OK || at != 0 || len(l) != len(want)+1 {
				t.Fatalf("%s: %d functions, error %d at %d", cut(parse.Text(more)), len(l), err, at)
			}
			if got := drawn(l[:len(want)]); got != drawn(want) || !Same(l[:len(want)], want) {
				t.Fatalf("%s:\n%swant\n%s", cut(parse.Text(more)), got, drawn(want))
			}
			wants(t, "the function more", l[len(want)].Name, "more")
		}
	}
	if seen < 2000 {
		t.Errorf("only %d programs fit", seen)
	}
}

// P12.7: a variable's name does not matter

// renamed gives all variables of a program other names, two the same one only where they had the same.
func renamed(n *api.Node, name func(string) string) {
	each(n, func(x *api.Node) {
		switch x.Kind {
		case api.NVar, api.NParam, api.NUse:
			x.Text = name(x.Text)
		}
	})
}

func TestNamesOfVariablesDoNotMatter(t *testing.T) {
	t.Parallel()
	for n := range fittingPrograms(3000) {
		want, _, _ := Check(n)
		for _, name := range []func(string) string{
			func(s string) string { return s + "_" },
			func(s string) string { return "v" + s },
			func(s string) string { return s + s },
			func(s string) string { return strings.ToUpper(s) },
			func(s string) string { return "main" + s },
			func(s string) string {
				return strings.NewReplacer("a", "b", "b", "a", "x", "main", "main", "x").Replace(s)
			},
		} {
			other := copied(n)
			renamed(&other, name)
			l, at, err := Check(other)
			if err != api.OK || at != 0 || !Same(l, want) || drawn(l) != drawn(want) {
				t.Fatalf("%s:\nerror %d at %d\n%swant\n%s", cut(parse.Text(other)), err, at, drawn(l), drawn(want))
			}
		}
	}
}

// Each variable has another name than all others of its function.
func TestNamesOfTheirOwn(t *testing.T) {
	for n := range fittingPrograms(2000) {
		want, _, _ := Check(n)
		other := copied(n)
		m := &plain{spots: map[*api.Node]spot{}, known: map[*api.Node]api.Type{}}
		for i := range other.Kids {
			m.head(&other.Kids[i])
		}
		ownNames(m)
		l, at, err := Check(other)
		if err != api.OK || at != 0 || !Same(l, want) {
			t.Fatalf("%s:\nerror %d at %d\n%swant\n%s", cut(parse.Text(other)), err, at, drawn(l), drawn(want))
		}
	}
}

func ownNames(m *plain) {
	for _, f := range m.funcs {
		m.of = f
		meant := map[*api.Node]int{}
		each(f.n, func(x *api.Node) {
			if x.Kind == api.NUse {
				meant[x] = m.meant(x)
			}
		})
		for x, k := range meant {
			x.Text = "own" + numbers(k + 1)[k]
		}
		for k, v := range f.vars {
			v.n.Text = "own" + numbers(k + 1)[k]
		}
	}
}
