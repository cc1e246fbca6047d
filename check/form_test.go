package check

import (
	"math/rand"
	"slices"
	"strings"
	"testing"

	"swage/api"
	"swage/parse"
	"swage/token"
)

// Words: of nodes that Parse does not make, by Kind or by Kids, ErrArg is told at 0.

// copied answers a tree like n, in memory of its own.
func copied(n api.Node) api.Node {
	kids := make([]api.Node, 0, len(n.Kids))
	for _, kid := range n.Kids {
		kids = append(kids, copied(kid))
	}
	n.Kids = kids
	return n
}

// usual gives all nodes Texts that go with their Kinds.
func usual(n *api.Node) {
	each(n, func(x *api.Node) {
		switch x.Kind {
		case api.NFunc, api.NParam, api.NVar, api.NUse, api.NCall:
			x.Text = "a"
		case api.NArray, api.NNumber, api.NField:
			x.Text = "1"
		case api.NBin:
			x.Text = "+"
		default:
			x.Text = ""
		}
	})
}

// isParsed tells whether Parse makes such a tree: of its text it makes the same.
func isParsed(n api.Node) bool {
	n = copied(n)
	usual(&n)
	l, _, err := token.Lex(parse.Text(n))
	if err != api.OK {
		return false
	}
	tree, _, err := parse.Parse(l)
	return err == api.OK && parse.Same(n, tree)
}

// placed lets each node of a tree stand at a place of its own, none at 0.
func placed(n *api.Node) {
	at := 1000
	each(n, func(x *api.Node) {
		at++
		x.At = at
	})
}

// formAgrees fails the test if ErrArg is told at 0 of a tree that Parse makes, or not of one that it does not make.
func formAgrees(t *testing.T, n api.Node) bool {
	t.Helper()
	placed(&n)
	made := isParsed(n)
	l, at, err := Check(n)
	if (err == api.ErrArg && at == 0 && len(l) == 0) == made {
		t.Fatalf("Check of %s: error %d at %d, %d functions; Parse makes it: %v", drawnNode(n), err, at, len(l), made)
	}
	return made
}

var kindNames = strings.Fields("none program func param void int pointer array tuple block var set if for return print do number use bin neg at addr index field call new read")

func kindName(kind int) string {
	if kind < 0 || kind >= len(kindNames) {
		return "?"
	}
	return kindNames[kind]
}

// drawnNode is a tree as a failure tells it.
func drawnNode(n api.Node) string {
	var b strings.Builder
	drawNode(&b, n)
	return b.String()
}

func drawNode(b *strings.Builder, n api.Node) {
	b.WriteString(kindName(n.Kind))
	if n.Text != "" {
		b.WriteString(" " + n.Text)
	}
	b.WriteByte('(')
	for i, kid := range n.Kids {
		if b.Len() > 2000 {
			b.WriteString(" ..")
			break
		}
		if i > 0 {
			b.WriteByte(' ')
		}
		drawNode(b, kid)
	}
	b.WriteByte(')')
}

func TestTreesThatAreNone(t *testing.T) {
	refusedTree(t, "a zero node", api.Node{}, 0, api.ErrArg)
	program := parsed(t, "func main() { print 1; }")
	for _, kind := range strangeKinds() {
		refusedTree(t, "a Kind that is none", api.Node{Kind: kind, At: 5}, 0, api.ErrArg)
		refusedTree(t, "a Kind that is none", api.Node{Kind: kind, At: 5, Text: "main", Kids: program.Kids}, 0, api.ErrArg)
	}
	for kind := api.NFunc; kind <= api.NRead; kind++ {
		refusedTree(t, "no program", api.Node{Kind: kind, At: 5}, 0, api.ErrArg)
		refusedTree(t, "no program", api.Node{Kind: kind, At: 5, Kids: program.Kids}, 0, api.ErrArg)
		refusedTree(t, "no program", api.Node{Kind: kind, At: 5, Kids: []api.Node{program}}, 0, api.ErrArg)
	}
	refusedTree(t, "a function", program.Kids[0], 0, api.ErrArg)
	refusedTree(t, "a program in a program", node(api.NProgram, "", 5, program), 0, api.ErrArg)
}

func strangeKinds() []int {
	return []int{api.MinInt, -1 << 32, -27, -2, -1, 0, 28, 29, 30, 31, 32, 64, 128, 256, 1 << 32, 1<<32 + 1, api.MaxInt}
}

// all27 is a program with each Kind of node in it.
const all27 = `func f(a int, b *(int, [2]int)) *int { var c [2]int; c[a] = -a + (*b).0; if a { print read; } else { for c[0] { print 1; } }
if a { f(1, new((int, [2]int))); } return &c[1]; } func main() { return; }`

// nodes answers all nodes of a tree.
func nodes(n *api.Node) []*api.Node {
	var l []*api.Node
	each(n, func(x *api.Node) { l = append(l, x) })
	return l
}

func TestAllKindsAreThere(t *testing.T) {
	n := parsed(t, all27)
	there := map[int]bool{}
	each(&n, func(x *api.Node) { there[x.Kind] = true })
	wants(t, "Kinds", len(there), api.NRead)
	wants(t, "whether it is made", formAgrees(t, n), true)
	fitsTree(t, all27, n)
}

// samples are a node of each Kind, that is as it has to be, and some that are not.
func samples(t *testing.T) []api.Node {
	n := parsed(t, all27)
	l := make([]api.Node, api.NRead+1)
	each(&n, func(x *api.Node) {
		if l[x.Kind].Kind == 0 || parse.Size(*x) < parse.Size(l[x.Kind]) {
			l[x.Kind] = *x
		}
	})
	return append(l, api.Node{Kind: -1}, api.Node{Kind: api.NRead + 1}, api.Node{Kind: api.NPointer}, api.Node{Kind: api.NNeg})
}

// eachOther answers trees that differ in one place from one.
func eachOther(t *testing.T, n api.Node, visit func(api.Node)) {
	samples := samples(t)
	for i := range nodes(&n) {
		with := func(change func(*api.Node)) {
			tree := copied(n)
			change(nodes(&tree)[i])
			visit(tree)
		}
		for kind := -2; kind < api.NRead+4; kind++ {
			with(func(x *api.Node) { x.Kind = kind })
			with(func(x *api.Node) { x.Kind, x.Kids = kind, nil })
		}
		for _, kind := range strangeKinds() {
			with(func(x *api.Node) { x.Kind = kind })
		}
		for _, sample := range samples {
			with(func(x *api.Node) { *x = copied(sample) })
			for k := range len(nodes(&n)[i].Kids) + 1 {
				with(func(x *api.Node) { x.Kids = slices.Insert(x.Kids, k, copied(sample)) })
			}
		}
		for k := range nodes(&n)[i].Kids {
			with(func(x *api.Node) { x.Kids = slices.Delete(x.Kids, k, k+1) })
			with(func(x *api.Node) { x.Kids = x.Kids[:k] })
			with(func(x *api.Node) { x.Kids = slices.Insert(x.Kids, k, copied(x.Kids[k])) })
			with(func(x *api.Node) { x.Kids[0], x.Kids[k] = x.Kids[k], x.Kids[0] })
		}
	}
}

func TestTreesThatDifferInOnePlace(t *testing.T) {
	made, others := 0, 0
	eachOther(t, parsed(t, all27), func(n api.Node) {
		if formAgrees(t, n) {
			made++
		} else {
			others++
		}
	})
	if made < 500 || others < 5000 {
		t.Errorf("only %d trees are made, %d are not", made, others)
	}
}

// around puts a node at places of all sorts.
func around(n api.Node) []api.Node {
	in := func(kind int, kids ...api.Node) api.Node { return api.Node{Kind: kind, Kids: kids} }
	block := func(l ...api.Node) api.Node {
		return in(api.NProgram, in(api.NFunc, in(api.NVoid), in(api.NBlock, l...)))
	}
	return []api.Node{
		n, in(api.NProgram, n),
		in(api.NProgram, in(api.NFunc, n, in(api.NVoid), in(api.NBlock))),
		in(api.NProgram, in(api.NFunc, n, in(api.NBlock))),
		in(api.NProgram, in(api.NFunc, in(api.NVoid), n)),
		block(n), block(in(api.NPrint, n)), block(in(api.NDo, n)), block(in(api.NVar, n)), block(in(api.NIf, in(api.NRead), n)),
	}
}

// lists goes over all lists of at most so many of these.
func lists(of []api.Node, most int, visit func([]api.Node)) {
	var grow func([]api.Node)
	grow = func(l []api.Node) {
		visit(l)
		if len(l) == most {
			return
		}
		for _, x := range of {
			grow(append(slices.Clip(l), x))
		}
	}
	grow(nil)
}

func TestAllSmallNodes(t *testing.T) {
	t.Parallel()
	all := samples(t)
	some := []api.Node{all[api.NParam], all[api.NVoid], all[api.NInt], all[api.NBlock], all[api.NCall], all[api.NRead]}
	made := 0
	for kind := range api.NRead + 2 {
		see := func(l []api.Node) {
			for _, tree := range around(api.Node{Kind: kind, Kids: l}) {
				if formAgrees(t, copied(tree)) {
					made++
				}
			}
		}
		lists(some, 3, see)
		for _, x := range all {
			see([]api.Node{x})
			for _, y := range some {
				see([]api.Node{x, y})
				see([]api.Node{y, x})
			}
		}
	}
	if made < 400 {
		t.Errorf("only %d of them are made", made)
	}
}

func TestManyOtherTrees(t *testing.T) {
	r := rand.New(rand.NewSource(12))
	base := parsed(t, all27)
	samples := samples(t)
	made := 0
	for range 20000 {
		n := copied(base)
		for range 1 + r.Intn(4) {
			l := nodes(&n)
			x := l[r.Intn(len(l))]
			other := samples[r.Intn(len(samples))]
			switch r.Intn(4) {
			case 0:
				x.Kind = r.Intn(api.NRead+3) - 1
			case 1:
				*x = copied(other)
			case 2:
				x.Kids = slices.Insert(x.Kids, r.Intn(len(x.Kids)+1), copied(other))
			case 3:
				x.Kids = x.Kids[:r.Intn(len(x.Kids)+1)]
			}
		}
		if formAgrees(t, n) {
			made++
		}
	}
	if made < 500 {
		t.Errorf("only %d of them are made", made)
	}
}

// A tree that Parse does not make is told first, whatever else does not fit.
func TestTreesThatAreNoneAheadOfAllElse(t *testing.T) {
	for _, s := range []string{"", "func f() {}", "func main(a int) {}", "func main() { print x; }", "func main() {} func main() {}", "func f(a [0]int) {}", functions(300)} {
		n := parsed(t, s+" func last() { print 1; }")
		n.Kids[len(n.Kids)-1].Kids[1].Kids[0].Kids[0].Kind = api.NInt
		refusedTree(t, s, n, 0, api.ErrArg)
	}
	n := parsed(t, "func main() { print x; print 1; }")
	n.Kids[0].Kids[1].Kids[1].Kids = nil
	refusedTree(t, "a NPrint of nothing", n, 0, api.ErrArg)
}

// What is none is told at whatever depth.
func TestTreesThatAreNoneAtGreatDepth(t *testing.T) {
	for _, c := range []struct {
		what   string
		place  []int // in which Kid of the program's it is
		bottom api.Node
		around func(api.Node) api.Node
	}{
		{"type", []int{0, 1, 0, 0}, api.Node{Kind: api.NVoid}, func(n api.Node) api.Node { return node(api.NPointer, "", 1, n) }},
		{"type", []int{0, 1, 0, 0}, api.Node{Kind: api.NRead}, func(n api.Node) api.Node { return node(api.NTuple, "", 1, n) }},
		{"statement", []int{0, 1, 0}, api.Node{Kind: api.NPrint}, func(n api.Node) api.Node {
			return node(api.NFor, "", 1, api.Node{Kind: api.NRead}, node(api.NBlock, "", 1, n))
		}},
		{"expression", []int{0, 1, 1, 0}, api.Node{Kind: api.NInt}, func(n api.Node) api.Node { return node(api.NNeg, "", 1, n) }},
		{"expression", []int{0, 1, 1, 0}, api.Node{Kind: api.NDo}, func(n api.Node) api.Node { return node(api.NBin, "+", 1, n, api.Node{Kind: api.NRead}) }},
		{"expression", []int{0, 1, 1, 0}, api.Node{Kind: 28}, func(n api.Node) api.Node { return node(api.NCall, "f", 1, n) }},
	} {
		n := parsed(t, "func main() { var a int; print 1; }")
		x := &n
		for _, k := range c.place {
			x = &x.Kids[k]
		}
		deep := c.bottom
		for range 20000 {
			deep = c.around(deep)
		}
		*x = deep
		refusedTree(t, "a deep "+c.what, n, 0, api.ErrArg)
	}
}
