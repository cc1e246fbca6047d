package check

import (
	"iter"
	"math/rand"
	"slices"
	"strconv"
	"strings"
	"testing"
	"unsafe"

	"swage/api"
	"swage/parse"
	"swage/types"
)

// fittingPrograms are programs that fit: some of all sorts, and many that were made.
func fittingPrograms(many int) iter.Seq[api.Node] {
	return func(yield func(api.Node) bool) {
		r := rand.New(rand.NewSource(127))
		for range many {
			n := made(r, 0)
			if _, _, err := Check(n); err == api.OK && !yield(n) {
				return
			}
		}
	}
}

// somePrograms are programs of all sorts that fit.
func somePrograms(t *testing.T) []api.Node {
	l := []api.Node{parsed(t, all27+" func last(p *int, q **int) { p = &*p; print p == *q; } "), parsed(t, world+whatFollows), parsed(t, "func main() {}"),
		parsed(t, "func f() {} func main() { var a (int, *[2](int, int)); var b (int, *[2](int, int)); print &a == &b; print a.1 == b.1; f(); print (*a.1)[0].1; }")}
	for n := range fittingPrograms(60) {
		l = append(l, n)
	}
	return l
}

// P12.5: Same

// copiedType, copiedTree and copiedProcs answer what is alike, without the program's help.
func copiedType(t api.Type) api.Type {
	kids := make([]api.Type, 0, len(t.Kids))
	for _, kid := range t.Kids {
		kids = append(kids, copiedType(kid))
	}
	return api.Type{Kind: t.Kind, Count: t.Count, Kids: kids}
}

func copiedTree(t api.Tree) api.Tree {
	kids := make([]api.Tree, 0, len(t.Kids))
	for _, kid := range t.Kids {
		kids = append(kids, copiedTree(kid))
	}
	return api.Tree{Kind: t.Kind, Num: t.Num, Type: copiedType(t.Type), Kids: kids}
}

func copiedProcs(l []api.Proc) []api.Proc {
	var other []api.Proc
	for _, x := range l {
		x.Vars = copiedType(api.Type{Kids: x.Vars}).Kids
		x.Held = append([]bool{}, x.Held...)
		x.Result, x.Body = copiedType(x.Result), copiedTree(x.Body)
		other = append(other, x)
	}
	return other
}

// changesOfType, changesOfTree and changesOfProc add all ways in which one thing may be another one.
func changesOfType(t *api.Type, add func(func())) {
	add(func() { t.Kind++ })
	add(func() { t.Count++ })
	add(func() { t.Count = -t.Count - 1 })
	add(func() { t.Kids = append(t.Kids, integerType()) })
	add(func() { t.Kids = slices.Insert(t.Kids, 0, api.Type{}) })
	if len(t.Kids) > 0 {
		add(func() { t.Kids = t.Kids[:len(t.Kids)-1] })
	}
	for i := range t.Kids {
		changesOfType(&t.Kids[i], add)
	}
}

func changesOfTree(t *api.Tree, add func(func())) {
	add(func() { t.Kind++ })
	add(func() { t.Num++ })
	add(func() { t.Num = -t.Num - 1 })
	add(func() { t.Kids = append(t.Kids, api.Tree{}) })
	add(func() { t.Kids = slices.Insert(t.Kids, 0, api.Tree{Kind: api.NRead}) })
	if len(t.Kids) > 0 {
		add(func() { t.Kids = t.Kids[1:] })
	}
	changesOfType(&t.Type, add)
	for i := range t.Kids {
		changesOfTree(&t.Kids[i], add)
	}
}

func changesOfProc(x *api.Proc, add func(func())) {
	add(func() { x.Name += "x" })
	add(func() { x.Name = strings.ToUpper(x.Name) + "\x00" })
	add(func() { x.Params++ })
	add(func() { x.Params-- })
	add(func() { x.Vars = append(x.Vars, integerType()) })
	add(func() { x.Held = append(x.Held, false) })
	add(func() { x.Held = append(x.Held, true) })
	if len(x.Vars) > 0 {
		add(func() { x.Vars = x.Vars[1:] })
		add(func() { x.Held = x.Held[1:] })
	}
	for i := range x.Held {
		add(func() { x.Held[i] = !x.Held[i] })
	}
	for i := range x.Vars {
		changesOfType(&x.Vars[i], add)
	}
	changesOfType(&x.Result, add)
	changesOfTree(&x.Body, add)
}

// changesOf are all ways in which what is answered may differ in one thing.
func changesOf(l []api.Proc) []func() {
	var all []func()
	for i := range l {
		changesOfProc(&l[i], func(change func()) { all = append(all, change) })
	}
	return all
}

func TestSameOfWhatDiffersInOneThing(t *testing.T) {
	t.Parallel()
	for _, n := range somePrograms(t)[:20] {
		l, _, _ := Check(n)
		wants(t, "Same of a copy", Same(l, copiedProcs(l)), true)
		many := len(changesOf(copiedProcs(l)))
		if many > 1500 {
			continue
		}
		for i := range many {
			other := copiedProcs(l)
			changesOf(other)[i]()
			if Same(l, other) || Same(other, l) {
				t.Fatalf("Same of\n%sand\n%s", cut(drawn(l)), cut(drawn(other)))
			}
			wants(t, "Same of it and itself", Same(other, copiedProcs(other)), true)
		}
	}
}

func TestSameOfRows(t *testing.T) {
	l := fits(t, "func main() {} func f(a int) { print a; } func g(a int) { print a; }")
	wants(t, "Same of nothing", Same(nil, []api.Proc{}), true)
	wants(t, "Same of nothing", Same([]api.Proc{}, nil), true)
	wants(t, "Same of nothing and a function", Same(nil, []api.Proc{{}}), false)
	wants(t, "Same of a function and nothing", Same([]api.Proc{{}}, []api.Proc{}), false)
	wants(t, "Same of a row and its beginning", Same(l, l[:2]), false)
	wants(t, "Same of a beginning and the row", Same(l[:2], l), false)
	wants(t, "Same of a row and its end", Same(l, l[1:]), false)
	wants(t, "Same of a row turned round", Same(l, []api.Proc{l[0], l[2], l[1]}), false)
	wants(t, "Same of a row and itself", Same(l, l), true)
	wants(t, "Same of two zeros", Same([]api.Proc{{}, {}}, []api.Proc{{}, {}}), true)
}

// Nothing and an empty list are the same, within other data, too.
func TestSameOfEmptyLists(t *testing.T) {
	a := []api.Proc{{Vars: []api.Type{{}}, Body: api.Tree{Kids: []api.Tree{{}}}}}
	b := []api.Proc{{Vars: []api.Type{{Kids: []api.Type{}}}, Held: []bool{}, Result: api.Type{Kids: []api.Type{}},
		Body: api.Tree{Type: api.Type{Kids: []api.Type{}}, Kids: []api.Tree{{Kids: []api.Tree{}}}}}}
	wants(t, "Same of nil lists and empty ones", Same(a, b), true)
	wants(t, "Same of empty lists and nil ones", Same(b, a), true)
	n := parsed(t, "func f() int { f(); return read; } func main() { return; }")
	want := fitsTree(t, "nil lists", n)
	wants(t, "Same of trees with empty lists", Same(fitsTree(t, "empty lists", copied(n)), want), true)
}

// sizeOf is how many nodes a tree has, reckoned without calls in calls.
func sizeOf(t api.Tree) int {
	l := []api.Tree{t}
	for i := 0; i < len(l); i++ {
		l = append(l, l[i].Kids...)
	}
	return len(l)
}

func TestSize(t *testing.T) {
	wants(t, "Size of a zero", Size(api.Tree{}), 1)
	wants(t, "Size of an empty list", Size(api.Tree{Kind: 77, Num: 5, Kids: []api.Tree{}}), 1)
	wants(t, "Size of three", Size(api.Tree{Kids: []api.Tree{{}, {Kind: -1}}}), 3)
	wants(t, "Size of four", Size(api.Tree{Type: types.Pointer(integerType()), Kids: []api.Tree{{Kids: []api.Tree{{Kids: []api.Tree{{}}}}}}}), 4)
	l := fits(t, "func main() { var a [3]int; a[2] = read; print a[2] * 2; }")
	wants(t, "Size of the example of the whole", Size(l[0].Body), 13)
	for n := range fittingPrograms(500) {
		l, _, _ := Check(n)
		for _, x := range l {
			wants(t, "Size", Size(x.Body), sizeOf(x.Body))
		}
	}
}

// Of a body there is a node each, but for types and NVoid.
func TestSizeOfBodies(t *testing.T) {
	for n := range fittingPrograms(500) {
		l, _, _ := Check(n)
		many := 0
		for _, x := range l {
			many += Size(x.Body)
		}
		want := 0
		each(&n, func(x *api.Node) {
			if x.Kind > api.NTuple {
				want++
			}
		})
		wants(t, "Size of "+parse.Text(n), many, want)
	}
}

// P12.6: memory

// spoilTypes, spoilTrees and spoilProcs change all that is in lists, to all depths, and their spare room.
func spoilTypes(l []api.Type) {
	for i := range l {
		spoilTypes(l[i].Kids)
	}
	l = l[:cap(l)]
	for i := range l {
		l[i] = api.Type{Kind: 77, Count: 7, Kids: []api.Type{{Kind: 3}}}
	}
}

func spoilTrees(l []api.Tree) {
	for i := range l {
		spoilTrees(l[i].Kids)
		spoilTypes(l[i].Type.Kids)
	}
	l = l[:cap(l)]
	for i := range l {
		l[i] = api.Tree{Kind: 77, Num: 7, Kids: []api.Tree{{}}}
	}
}

func spoilProcs(l []api.Proc) {
	for i := range l {
		spoilTypes(l[i].Vars)
		spoilTypes(l[i].Result.Kids)
		spoilTrees([]api.Tree{l[i].Body})
		held := l[i].Held[:cap(l[i].Held)]
		for k := range held {
			held[k] = !held[k]
		}
	}
	l = l[:cap(l)]
	for i := range l {
		l[i] = api.Proc{Name: "spoilt", Params: 7}
	}
}

func spoilNodes(l []api.Node) {
	for i := range l {
		spoilNodes(l[i].Kids)
	}
	l = l[:cap(l)]
	for i := range l {
		l[i] = node(api.NVoid, "spoilt", 7, api.Node{Kind: 77})
	}
}

// roomy answers a tree like n, each of whose lists has spare room that holds something.
func roomy(n api.Node) api.Node {
	kids := make([]api.Node, 0, len(n.Kids)+3)
	for _, kid := range n.Kids {
		kids = append(kids, roomy(kid))
	}
	for i, room := len(kids), kids[:cap(kids)]; i < len(room); i++ {
		room[i] = node(api.NArray, "5", 9, api.Node{Kind: api.NInt})
	}
	return api.Node{Kind: n.Kind, Text: strings.Clone(n.Text), At: n.At, Kids: kids}
}

// whole is all of a tree as a text, with its spare room.
func whole(n api.Node) string {
	var b strings.Builder
	writeWhole(&b, n)
	return b.String()
}

func writeWhole(b *strings.Builder, n api.Node) {
	b.WriteString(strconv.Itoa(n.Kind) + strconv.Quote(n.Text) + strconv.Itoa(n.At))
	for i, kid := range n.Kids[:cap(n.Kids)] {
		if i == len(n.Kids) {
			b.WriteString("|")
		}
		writeWhole(b, kid)
	}
	b.WriteString(".")
}

// room is where a list is, with its spare room.
type room struct{ from, to uintptr }

type rooms []room

func add[T any](l *rooms, list []T) {
	var one T
	from := uintptr(unsafe.Pointer(unsafe.SliceData(list)))
	if cap(list) > 0 {
		*l = append(*l, room{from, from + uintptr(cap(list))*unsafe.Sizeof(one)})
	}
}

func (l *rooms) text(s string) {
	from := uintptr(unsafe.Pointer(unsafe.StringData(s)))
	if len(s) > 0 {
		*l = append(*l, room{from, from + uintptr(len(s))})
	}
}

func (l *rooms) types(list []api.Type) {
	add(l, list)
	for _, t := range list {
		l.types(t.Kids)
	}
}

func (l *rooms) trees(list []api.Tree) {
	add(l, list)
	for _, t := range list {
		l.types(t.Type.Kids)
		l.trees(t.Kids)
	}
}

func (l *rooms) procs(list []api.Proc) {
	add(l, list)
	for _, x := range list {
		l.text(x.Name)
		l.types(x.Vars)
		add(l, x.Held)
		l.types(x.Result.Kids)
		l.types(x.Body.Type.Kids)
		l.trees(x.Body.Kids)
	}
}

func (l *rooms) nodes(list []api.Node) {
	add(l, list)
	for _, n := range list {
		l.text(n.Text)
		l.nodes(n.Kids)
	}
}

// apart fails the test if two rooms have memory in common.
func (l rooms) apart(t *testing.T, what string) {
	t.Helper()
	slices.SortFunc(l, func(a, b room) int {
		if a.from < b.from {
			return -1
		}
		return 1
	})
	for i := 1; i < len(l); i++ {
		if l[i].from < l[i-1].to {
			t.Fatalf("%s: two lists share memory", cut(what))
		}
	}
}

func TestAnswersShareNoMemory(t *testing.T) {
	for _, n := range somePrograms(t) {
		n = roomy(n)
		var l rooms
		l.nodes(n.Kids)
		for range 2 {
			procs, _, _ := Check(n)
			l.procs(procs)
		}
		l.apart(t, parse.Text(n))
	}
}

func TestChangedAnswersChangeNothing(t *testing.T) {
	for _, n := range somePrograms(t) {
		n = roomy(n)
		before := whole(n)
		l, _, _ := Check(n)
		other, _, _ := Check(n)
		want := drawn(l)
		spoilProcs(l)
		wants(t, "another answer behind that", drawn(other), want)
		wants(t, "what was handed in behind that", whole(n) == before, true)
		again, _, _ := Check(n)
		wants(t, "a later answer", drawn(again), want)
	}
}

func TestChangedTreesChangeNoAnswer(t *testing.T) {
	for _, n := range somePrograms(t) {
		n = roomy(n)
		l, _, _ := Check(n)
		want := drawn(l)
		spoilNodes(n.Kids)
		wants(t, "an answer behind a change of what was handed in", drawn(l), want)
	}
}

func TestTreesAreLeftAsTheyAre(t *testing.T) {
	r := rand.New(rand.NewSource(126))
	for i := range 2000 {
		n := roomy(made(r, []int{0, 20}[i%2]))
		before := whole(n)
		Check(n)
		wants(t, "whether a tree is left as it is", whole(n) == before, true)
	}
	n := roomy(parsed(t, "func main() { print 1; }"))
	n.Kids[0].Kids[1].Kids[0].Kind = 77
	before := whole(n)
	Check(n)
	wants(t, "whether a tree that is none is left as it is", whole(n) == before, true)
}

func TestFunctionsAndTreesAreLeftAsTheyAre(t *testing.T) {
	for _, n := range somePrograms(t) {
		l, _, _ := Check(n)
		other := copiedProcs(l)
		want := drawn(l)
		Same(l, other)
		for _, x := range l {
			Size(x.Body)
		}
		wants(t, "what was handed in", drawn(l), want)
		wants(t, "the other one that was handed in", drawn(other), want)
		spoilProcs(other)
		wants(t, "Same of it behind that", Same(l, l), true)
	}
}

// W2: nothing else

func TestTheSameTreesAreToldAlike(t *testing.T) {
	r := rand.New(rand.NewSource(122))
	for i := range 1000 {
		n := made(r, []int{0, 20}[i%2])
		l, at, err := Check(n)
		for range 3 {
			again, place, e := Check(roomy(n))
			if place != at || e != err || drawn(again) != drawn(l) {
				t.Fatalf("%s: told in two ways", cut(parse.Text(n)))
			}
		}
	}
}

// The bound: great, deep and wide trees

const deepest = 1 << 16

// inPlace puts a node in place of the last statement of main.
func inPlace(t *testing.T, s string, x api.Node) api.Node {
	n := parsed(t, "func main() { "+s+" return; }")
	block := n.Kids[0].Kids[1].Kids
	block[len(block)-1] = x
	return n
}

// deep puts a node into others, up to a depth.
func deep(x api.Node, most, step int, around func(api.Node) api.Node) api.Node {
	for depth := 10; depth+step <= most; depth += step {
		x = around(x)
	}
	return x
}

func TestDeepTrees(t *testing.T) {
	use := api.Node{Kind: api.NUse, Text: "a", At: 5}
	one := api.Node{Kind: api.NNumber, Text: "1", At: 6}
	print := func(x api.Node) api.Node { return node(api.NPrint, "", 3, x) }
	for _, c := range []struct {
		what   string
		step   int
		around func(api.Node) api.Node
	}{
		{"neg", 1, func(x api.Node) api.Node { return node(api.NNeg, "", 7, x) }},
		{"bin to the left", 1, func(x api.Node) api.Node { return node(api.NBin, "+", 7, x, one) }},
		{"bin to the right", 1, func(x api.Node) api.Node { return node(api.NBin, "==", 7, one, x) }},
		{"pointers", 2, func(x api.Node) api.Node { return node(api.NAt, "", 7, node(api.NAddr, "", 8, x)) }},
		{"indices", 1, func(x api.Node) api.Node { return node(api.NIndex, "", 7, api.Node{Kind: api.NUse, Text: "r"}, x) }},
		{"calls", 1, func(x api.Node) api.Node { return node(api.NCall, "f", 7, x) }},
	} {
		n := inPlace(t, "var a int; var r [2]int;", print(deep(use, deepest, c.step, c.around)))
		n.Kids = append(n.Kids, parsed(t, "func f(a int) int { return a; }").Kids...)
		l := fitsTree(t, "deep "+c.what, n)
		wants(t, "Size of deep "+c.what, Size(l[0].Body), sizeOf(l[0].Body))
		wants(t, "Same of deep "+c.what, Same(l, copiedProcs(l)), true)
		n = inPlace(t, "var b int; var r [2]int;", print(deep(use, deepest, c.step, c.around)))
		refusedTree(t, "deep "+c.what, n, 5, api.ErrNone)
	}
}

func TestDeepStatements(t *testing.T) {
	t.Parallel()
	for _, kind := range []int{api.NIf, api.NFor} {
		around := func(x api.Node) api.Node {
			return node(kind, "", 7, api.Node{Kind: api.NUse, Text: "a"}, node(api.NBlock, "", 8, x))
		}
		l := fitsTree(t, "deep statements", inPlace(t, "var a int;", deep(api.Node{Kind: api.NReturn}, deepest, 2, around)))
		wants(t, "Size of deep statements", Size(l[0].Body), sizeOf(l[0].Body))
		x := node(api.NPrint, "", 9, node(api.NUse, "x", 10))
		refusedTree(t, "deep statements", inPlace(t, "var a int;", deep(x, deepest, 2, around)), 10, api.ErrNone)
	}
	around := func(x api.Node) api.Node {
		return node(api.NFor, "", 7, api.Node{Kind: api.NUse, Text: "a"}, node(api.NBlock, "", 8, node(api.NVar, "a", 9, node(api.NInt, "", 10)), x))
	}
	const most = api.MaxReg/4 - 1
	l := fitsTree(t, "deep names", inPlace(t, "var a int;", deep(api.Node{Kind: api.NReturn}, 10+2*most, 2, around)))
	wants(t, "deep names", len(l[0].Vars), most+1)
	refusedTree(t, "deep names", inPlace(t, "var a int;", deep(api.Node{Kind: api.NReturn}, deepest, 2, around)), 9, api.ErrFull)
}

func TestDeepTypes(t *testing.T) {
	for _, kind := range []int{api.NPointer, api.NArray, api.NTuple} {
		x := deep(node(api.NInt, "", 7), deepest, 1, func(x api.Node) api.Node { return node(kind, "1", 8, x) })
		refusedTree(t, "a deep type", inPlace(t, "", node(api.NVar, "a", 3, x)), 8, api.ErrFull)
		refusedTree(t, "a deep type", inPlace(t, "", node(api.NPrint, "", 3, node(api.NNew, "", 4, x))), 8, api.ErrFull)
	}
}

func TestWideTrees(t *testing.T) {
	const many = 200000
	statement := parsed(t, "func main() { a = b + 1; }").Kids[0].Kids[1].Kids[0]
	n := inPlace(t, "var a int; var b int;", api.Node{Kind: api.NReturn})
	block := &n.Kids[0].Kids[1].Kids
	*block = append(*block, slices.Repeat([]api.Node{statement}, many)...)
	l := fitsTree(t, "many statements", n)
	wants(t, "Size of many statements", Size(l[0].Body), 4+5*many)
	last := copied(statement)
	last.Kids[0] = node(api.NUse, "x", 77)
	*block = append(*block, last)
	refusedTree(t, "many statements", n, 77, api.ErrNone)

	args := slices.Repeat([]api.Node{{Kind: api.NRead}}, many)
	refusedTree(t, "many arguments", inPlace(t, "", node(api.NDo, "", 3, node(api.NCall, "main", 4, args...))), 4, api.ErrType)
	kids := slices.Repeat([]api.Node{{Kind: api.NInt}}, many)
	refusedTree(t, "a wide type", inPlace(t, "", node(api.NVar, "a", 3, node(api.NTuple, "", 4, kids...))), 4, api.ErrFull)
	params := make([]api.Node, many)
	for i := range params {
		params[i] = node(api.NParam, strconv.Itoa(i), 100+i, api.Node{Kind: api.NInt})
	}
	f := node(api.NFunc, "f", 3, append(params, api.Node{Kind: api.NVoid}, api.Node{Kind: api.NBlock})...)
	refusedTree(t, "many parameters", node(api.NProgram, "", 2, f), 100+api.MaxArgs, api.ErrFull)
	refusedTree(t, "many functions", node(api.NProgram, "", 2, slices.Repeat([]api.Node{parsed(t, "func main() {}").Kids[0]}, many)...), 0, api.ErrTwice)
}

// Ahead of an error great types may be asked for often: no copies of them are kept.
func TestGreatTypesAheadOfAnError(t *testing.T) {
	const many = 20000
	row := wideType(api.MaxFields)
	great := "(" + strings.Repeat(row+", ", 30) + "*" + row + ")" // of some 2000 parts
	n := parsed(t, "func main() { var t "+great+"; t.0.0 = 1; print &t == &t; print *new(int); print x; }")
	block := &n.Kids[0].Kids[1].Kids
	*block = slices.Concat((*block)[:1], slices.Repeat((*block)[1:4], many), (*block)[4:])
	_, at, err := Check(n)
	wants(t, "error behind great types", err, api.ErrNone)
	wants(t, "place of an error behind great types", at, (*block)[len(*block)-1].Kids[0].At)
}
