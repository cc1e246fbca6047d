package types

import (
	"math/rand"
	"slices"
	"strconv"
	"strings"
	"testing"
	"unsafe"

	"swage/api"
)

func node(kind int, text string, kids ...api.Node) api.Node {
	return api.Node{Kind: kind, Text: text, Kids: kids}
}

func intNode() api.Node { return node(api.NInt, "") }

func intNodes(many int) []api.Node { return slices.Repeat([]api.Node{intNode()}, many) }

// drawnNode is a node as a failure tells it.
func drawnNode(n api.Node) string {
	var b strings.Builder
	drawNode(&b, n)
	return b.String()
}

func drawNode(b *strings.Builder, n api.Node) {
	b.WriteString(strconv.Itoa(n.Kind) + strconv.Quote(n.Text) + "{")
	for i, kid := range n.Kids {
		if b.Len() > 200 {
			b.WriteString(" ..")
			break
		}
		if i > 0 {
			b.WriteByte(' ')
		}
		drawNode(b, kid)
	}
	b.WriteByte('}')
}

// made fails the test if Of does not answer that type.
func made(t *testing.T, n api.Node, want api.Type) {
	t.Helper()
	x, err := Of(n)
	if err != api.OK || !alike(x, want) {
		t.Errorf("Of %s: %s, error %d; want %s", drawnNode(n), shown(x), err, shown(want))
	}
}

// refused fails the test if Of does not tell that error, and nothing beside it.
func refused(t *testing.T, n api.Node, want api.Errno) {
	t.Helper()
	x, err := Of(n)
	if err != want || !alike(x, api.Type{}) {
		t.Errorf("Of %s: %s, error %d; want error %d", drawnNode(n), shown(x), err, want)
	}
}

func agreesOf(t *testing.T, n api.Node) api.Errno {
	t.Helper()
	want, err := plainOf(n)
	if err != api.OK {
		refused(t, n, err)
	} else {
		made(t, n, want)
	}
	return err
}

// P11.2

func TestNodesOfEachKind(t *testing.T) {
	i := intNode()
	made(t, i, num())
	made(t, node(api.NPointer, "", i), ptr(num()))
	made(t, node(api.NArray, "3", i), arr(3, num()))
	made(t, node(api.NTuple, "", i), tup(num()))
	made(t, node(api.NTuple, "", i, i, i), tup(num(), num(), num()))
	made(t, node(api.NTuple, "", i, node(api.NArray, "3", node(api.NPointer, "", i)), i), tup(num(), arr(3, ptr(num())), num()))
	made(t, node(api.NPointer, "", node(api.NTuple, "", node(api.NArray, "2", node(api.NTuple, "", i)))), ptr(tup(arr(2, tup(num())))))
}

func TestHowManyKidsOfNodes(t *testing.T) {
	for _, kind := range append(slices.Collect(kindsOfNodes), api.MinInt, api.MaxInt, 1<<32+api.NInt, 1<<32+api.NTuple) {
		for _, many := range []int{0, 1, 2, 3, 63, 64, 65, 66, 1000} {
			for _, text := range []string{"2", "", "int"} {
				n := node(kind, text, intNodes(many)...)
				n.At = 5
				switch {
				case kind == api.NInt && many == 0:
					made(t, n, num())
				case kind == api.NPointer && many == 1:
					made(t, n, ptr(num()))
				case kind == api.NArray && many == 1 && text == "2":
					made(t, n, arr(2, num()))
				case kind == api.NTuple && 1 <= many && many <= api.MaxFields:
					made(t, n, tup(nums(many)...))
				case kind == api.NTuple && many > api.MaxFields:
					refused(t, n, api.ErrFull)
				default:
					refused(t, n, api.ErrArg)
				}
			}
		}
	}
}

// kindsOfNodes goes over all Kinds of nodes, and two beyond them at each end.
func kindsOfNodes(yield func(int) bool) {
	for kind := api.NProgram - 2; kind <= api.NRead+2; kind++ {
		if !yield(kind) {
			return
		}
	}
}

func TestTextsOfArrays(t *testing.T) {
	i := intNode()
	for text, count := range map[string]int{
		"1": 1, "2": 2, "9": 9, "10": 10, "64": 64, "65": 65, "1000": 1000,
		"1048575": api.MaxCells - 1, "1048576": api.MaxCells,
	} {
		made(t, node(api.NArray, text, i), arr(count, num()))
	}
	for _, text := range []string{"0", "1048577", "2097152", "4294967295", "4294967296", "4294967297", "1000000000000000000",
		"9223372036854775806", "9223372036854775807"} {
		refused(t, node(api.NArray, text, i), api.ErrFull)
		refused(t, node(api.NPointer, "", node(api.NArray, text, i)), api.ErrFull)
	}
	for _, text := range []string{"", " ", "00", "01", "03", "010", "-1", "-0", "+1", "1 ", " 1", "1_0", "1.0", "1e3", "0x10", "0b1", "a", "3a", "n",
		"int", "3]", "1,2", "\x003", "3\n", "٣", "9223372036854775808", "9223372036854775809", "18446744073709551616", "18446744073709551617",
		"99999999999999999999", "1" + strings.Repeat("0", 100)} {
		refused(t, node(api.NArray, text, i), api.ErrArg)
		refused(t, node(api.NTuple, "", i, node(api.NArray, text, i)), api.ErrArg)
	}
}

func TestTextsAndPlacesOfOtherNodes(t *testing.T) {
	for _, text := range []string{"", "0", "3", "03", "int", "?", "\xff"} {
		for _, at := range []int{0, 1, -1, api.MaxInt, api.MinInt} {
			i := api.Node{Kind: api.NInt, Text: text, At: at}
			made(t, i, num())
			made(t, api.Node{Kind: api.NPointer, Text: text, At: at, Kids: []api.Node{i}}, ptr(num()))
			made(t, api.Node{Kind: api.NTuple, Text: text, At: at, Kids: []api.Node{i, i}}, tup(num(), num()))
			made(t, api.Node{Kind: api.NArray, Text: "4", At: at, Kids: []api.Node{i}}, arr(4, num()))
		}
	}
}

func TestEmptyListsOfNodes(t *testing.T) {
	for _, kids := range [][]api.Node{nil, {}, make([]api.Node, 0, 3)} {
		made(t, api.Node{Kind: api.NInt, Kids: kids}, num())
		refused(t, api.Node{Kind: api.NPointer, Kids: kids}, api.ErrArg)
		refused(t, api.Node{Kind: api.NArray, Text: "3", Kids: kids}, api.ErrArg)
		refused(t, api.Node{Kind: api.NTuple, Kids: kids}, api.ErrArg)
	}
}

// wrongNodes answers nodes that are no type's.
func wrongNodes() []api.Node {
	i := intNode()
	return []api.Node{
		{},
		node(-1, ""),
		node(api.NRead+1, "", i),
		node(api.NVoid, ""),
		node(api.NVoid, "", i),
		node(api.NNumber, "3"),
		node(api.NUse, "int"),
		node(api.NParam, "a", i),
		node(api.NNew, "", i),
		node(api.NInt, "", i),
		node(api.NPointer, ""),
		node(api.NPointer, "", i, i),
		node(api.NArray, "3"),
		node(api.NArray, "3", i, i),
		node(api.NArray, "03", i),
		node(api.NArray, "", i),
		node(api.NTuple, ""),
	}
}

// fullNodes answers nodes of types that are not right.
func fullNodes() []api.Node {
	i := intNode()
	most := node(api.NArray, "1048576", i)
	return []api.Node{
		node(api.NArray, "0", i),
		node(api.NArray, "1048577", i),
		node(api.NArray, "2", most),
		node(api.NArray, "1048576", node(api.NArray, "1048576", node(api.NArray, "1048576", node(api.NArray, "16", i)))),
		node(api.NTuple, "", intNodes(api.MaxFields+1)...),
		node(api.NTuple, "", most, i),
		node(api.NPointer, "", node(api.NTuple, "", i, most)),
		node(api.NPointer, "", node(api.NArray, "0", i)),
		nestedNode(api.MaxNest, pointerNode, i),
		nestedNode(1000, pointerNode, i),
	}
}

func pointerNode(n api.Node) api.Node { return node(api.NPointer, "", n) }

func nestedNode(depth int, in func(api.Node) api.Node, n api.Node) api.Node {
	for range depth {
		n = in(n)
	}
	return n
}

// nodeWays answers what a type's node can be put in.
func nodeWays() []func(api.Node) api.Node {
	i := intNode()
	return []func(api.Node) api.Node{
		pointerNode,
		func(n api.Node) api.Node { return node(api.NArray, "1", n) },
		func(n api.Node) api.Node { return node(api.NTuple, "", n) },
		func(n api.Node) api.Node { return node(api.NTuple, "", n, i) },
		func(n api.Node) api.Node { return node(api.NTuple, "", i, n, i) },
		func(n api.Node) api.Node { return node(api.NTuple, "", i, i, n) },
	}
}

func TestNodesThatAreNoTypes(t *testing.T) {
	for _, bad := range wrongNodes() {
		refused(t, bad, api.ErrArg)
		for _, in := range nodeWays() {
			for _, depth := range []int{1, 2, 3, 50, api.MaxNest - 2, api.MaxNest - 1, api.MaxNest, api.MaxNest + 1, 1000} {
				refused(t, nestedNode(depth, in, bad), api.ErrArg)
			}
		}
		for at := range api.MaxFields {
			kids := intNodes(api.MaxFields)
			kids[at] = bad
			refused(t, node(api.NTuple, "", kids...), api.ErrArg)
		}
		// A Kid beyond the first one: there are too many, whatever it is.
		refused(t, node(api.NPointer, "", intNode(), bad), api.ErrArg)
		refused(t, node(api.NArray, "3", intNode(), bad), api.ErrArg)
		refused(t, node(api.NInt, "", bad), api.ErrArg)
	}
}

func TestNodesOfTypesThatAreNotRight(t *testing.T) {
	for _, full := range fullNodes() {
		refused(t, full, api.ErrFull)
		for _, in := range nodeWays() {
			for _, depth := range []int{1, 2, 50, api.MaxNest - 1, api.MaxNest, 1000} {
				refused(t, nestedNode(depth, in, full), api.ErrFull)
			}
		}
	}
}

// ErrArg is told ahead of ErrFull, wherever either is.
func TestWhichErrorIsToldFirst(t *testing.T) {
	for _, bad := range wrongNodes() {
		for _, full := range fullNodes() {
			refused(t, node(api.NTuple, "", full, bad), api.ErrArg)
			refused(t, node(api.NTuple, "", bad, full), api.ErrArg)
			refused(t, node(api.NTuple, "", full, intNode(), pointerNode(bad)), api.ErrArg)
			refused(t, node(api.NTuple, "", node(api.NArray, "2", bad), pointerNode(full)), api.ErrArg)
		}
		refused(t, node(api.NArray, "0", bad), api.ErrArg)
		refused(t, node(api.NArray, "1048577", bad), api.ErrArg)
		refused(t, node(api.NArray, "9223372036854775807", bad), api.ErrArg)
		for _, many := range []int{api.MaxFields, api.MaxFields + 1, 200} {
			refused(t, node(api.NTuple, "", append(intNodes(many), bad)...), api.ErrArg)
		}
	}
}

func TestNodesInOneAnother(t *testing.T) {
	for w, in := range nodeWays() {
		n := intNode()
		for depth := 1; depth <= api.MaxNest+3; depth++ {
			want := api.OK
			if depth > api.MaxNest {
				want = api.ErrFull
			}
			if x, err := Of(n); err != want || err == api.OK && plainNest(x) != depth {
				t.Errorf("way %d, %d deep: error %d; want %d", w, depth, err, want)
			}
			agreesOf(t, n)
			n = in(n)
		}
	}
}

func TestNodesOfGreatTypes(t *testing.T) {
	i := intNode()
	array := func(count int, n api.Node) api.Node { return node(api.NArray, strconv.Itoa(count), n) }
	made(t, array(1024, array(1024, i)), arr(1024, arr(1024, num())))
	refused(t, array(1024, array(1025, i)), api.ErrFull)
	made(t, node(api.NTuple, "", array(api.MaxCells-1, i), i), tup(arr(api.MaxCells-1, num()), num()))
	refused(t, node(api.NTuple, "", array(api.MaxCells, i), i), api.ErrFull)
	made(t, pointerNode(array(api.MaxCells, i)), ptr(arr(api.MaxCells, num())))
	made(t, array(api.MaxCells, pointerNode(array(api.MaxCells, i))), arr(api.MaxCells, ptr(arr(api.MaxCells, num()))))
	made(t, node(api.NTuple, "", slices.Repeat([]api.Node{array(api.MaxCells/64, i)}, 64)...),
		tup(slices.Repeat([]api.Type{arr(api.MaxCells/64, num())}, 64)...))
}

// P11.2 against the model

func TestAllSmallNodes(t *testing.T) {
	texts := []string{"", "0", "1", "03", "1048576", "1048577", "9223372036854775808"}
	var leaves []api.Node
	for kind := range kindsOfNodes {
		for _, text := range texts {
			leaves = append(leaves, node(kind, text))
		}
	}
	few := slices.Concat(wrongNodes(), fullNodes(), []api.Node{intNode(), node(api.NArray, "1048576", intNode())})
	rows := [][]api.Node{nil}
	for _, a := range slices.Concat(leaves, few) {
		rows = append(rows, []api.Node{a})
	}
	for _, a := range few {
		for _, b := range few {
			rows = append(rows, []api.Node{a, b})
		}
	}
	told := map[api.Errno]int{}
	for kind := range kindsOfNodes {
		for _, text := range texts {
			for _, kids := range rows {
				told[agreesOf(t, node(kind, text, kids...))]++
			}
		}
	}
	if told[api.OK] < 20 || told[api.ErrFull] < 100 || told[api.ErrArg] < 1000 {
		t.Errorf("types, ErrFull, ErrArg: %d, %d, %d: too few", told[api.OK], told[api.ErrFull], told[api.ErrArg])
	}
}

// nodeFor answers a node of a type.
func nodeFor(x api.Type) api.Node {
	n := api.Node{Kind: []int{0, api.NInt, api.NPointer, api.NArray, api.NTuple}[x.Kind], At: x.Count % 7}
	if x.Kind == api.TyArray {
		n.Text = strconv.Itoa(x.Count)
	}
	for _, kid := range x.Kids {
		n.Kids = append(n.Kids, nodeFor(kid))
	}
	return n
}

func nodePlaces(n *api.Node) []*api.Node {
	l := []*api.Node{n}
	for i := range n.Kids {
		l = append(l, nodePlaces(&n.Kids[i])...)
	}
	return l
}

func TestManyNodes(t *testing.T) {
	r := rand.New(rand.NewSource(21))
	told := map[api.Errno]int{}
	for range 20000 {
		n := nodeFor(randomType(r, 1+r.Intn(15)))
		for range r.Intn(3) {
			l := nodePlaces(&n)
			x := l[r.Intn(len(l))]
			switch r.Intn(6) {
			case 0:
				x.Kind = r.Intn(api.NRead + 2)
			case 1:
				x.Text = []string{"0", "2", "1048576", "1048577", "02", "", "9223372036854775808"}[r.Intn(7)]
			case 2:
				x.Kids = append(x.Kids, intNode())
			case 3:
				x.Kids = x.Kids[:len(x.Kids)/2]
			case 4:
				*x = node(api.NPointer, "", *x)
			case 5:
				*x = node(api.NTuple, "", *x, intNode())
			}
		}
		told[agreesOf(t, n)]++
	}
	for _, err := range []api.Errno{api.OK, api.ErrFull, api.ErrArg} {
		if told[err] < 200 {
			t.Errorf("error %d: %d times, too few", err, told[err])
		}
	}
}

func TestDeepAndWideNodes(t *testing.T) {
	for _, in := range nodeWays() {
		refused(t, nestedNode(1<<16-1, in, intNode()), api.ErrFull)
		refused(t, nestedNode(1<<16-1, in, node(api.NVoid, "")), api.ErrArg)
	}
	many := intNodes(1 << 20)
	refused(t, node(api.NTuple, "", many...), api.ErrFull)
	refused(t, node(api.NPointer, "", many...), api.ErrArg)
	many[len(many)-1] = node(api.NVoid, "")
	refused(t, node(api.NTuple, "", many...), api.ErrArg)
}

// P11.4: memory

// spoil changes all that is in a list of types, to all depths, and its spare room.
func spoil(l []api.Type) {
	for i := range l {
		spoil(l[i].Kids)
	}
	l = l[:cap(l)]
	for i := range l {
		l[i] = api.Type{Kind: api.TyPointer, Count: 77, Kids: nums(2)}
	}
}

func spoilNodes(l []api.Node) {
	for i := range l {
		spoilNodes(l[i].Kids)
	}
	l = l[:cap(l)]
	for i := range l {
		l[i] = node(api.NVoid, "spoilt", intNode())
	}
}

// roomy answers a type like t, each of whose lists has spare room that holds something.
func roomy(t api.Type) api.Type {
	kids := make([]api.Type, 0, len(t.Kids)+3)
	for _, kid := range t.Kids {
		kids = append(kids, roomy(kid))
	}
	for i, room := len(kids), kids[:cap(kids)]; i < len(room); i++ {
		room[i] = arr(5, num())
	}
	return api.Type{Kind: t.Kind, Count: t.Count, Kids: kids}
}

func roomyNode(n api.Node) api.Node {
	kids := make([]api.Node, 0, len(n.Kids)+3)
	for _, kid := range n.Kids {
		kids = append(kids, roomyNode(kid))
	}
	for i, room := len(kids), kids[:cap(kids)]; i < len(room); i++ {
		room[i] = node(api.NArray, "5", intNode())
	}
	return api.Node{Kind: n.Kind, Text: n.Text, At: n.At, Kids: kids}
}

// whole is all of a type as a text, with its spare room.
func whole(t api.Type) string {
	s := drawn(api.Type{Kind: t.Kind, Count: t.Count})
	for i, kid := range t.Kids[:cap(t.Kids)] {
		if i == len(t.Kids) {
			s += "|"
		}
		s += whole(kid)
	}
	return s + "."
}

func wholeNode(n api.Node) string {
	s := strconv.Itoa(n.Kind) + strconv.Quote(n.Text) + strconv.Itoa(n.At)
	for i, kid := range n.Kids[:cap(n.Kids)] {
		if i == len(n.Kids) {
			s += "|"
		}
		s += wholeNode(kid)
	}
	return s + "."
}

// room is where a list is, with its spare room.
type room struct{ from, to uintptr }

func roomOf[T any](l []T) room {
	var one T
	from := uintptr(unsafe.Pointer(unsafe.SliceData(l)))
	return room{from, from + uintptr(cap(l))*unsafe.Sizeof(one)}
}

// roomsOf answers where all lists of a type are: of empty ones, which hold nothing, none.
func roomsOf(t api.Type) []room {
	var l []room
	if cap(t.Kids) > 0 {
		l = append(l, roomOf(t.Kids))
	}
	for _, kid := range t.Kids {
		l = append(l, roomsOf(kid)...)
	}
	return l
}

func roomsOfNode(n api.Node) []room {
	var l []room
	if cap(n.Kids) > 0 {
		l = append(l, roomOf(n.Kids))
	}
	for _, kid := range n.Kids {
		l = append(l, roomsOfNode(kid)...)
	}
	return l
}

// apart fails the test if two rooms have memory in common.
func apart(t *testing.T, what string, l []room) {
	t.Helper()
	slices.SortFunc(l, func(a, b room) int {
		if a.from < b.from {
			return -1
		}
		return 1
	})
	for i := 1; i < len(l); i++ {
		if l[i].from < l[i-1].to {
			t.Fatalf("%s: two lists share memory", what)
		}
	}
}

// someTypes answers types of all sorts, right or not.
func someTypes() []api.Type {
	r := rand.New(rand.NewSource(22))
	l := wrongs()
	for range 150 {
		l = append(l, randomType(r, 1+r.Intn(12)))
	}
	x := tup(num(), arr(3, ptr(num())), num())
	turned(x, func(y api.Type) { l = append(l, y) })
	return append(l, x, tup(slices.Repeat([]api.Type{ptr(num())}, 64)...), nested(99, ptr, num()))
}

// answers are all calls that answer a type.
func answers() map[string]func(api.Type) api.Type {
	return map[string]func(api.Type) api.Type{"Copy": Copy, "Pointer": Pointer}
}

func TestAnswersShareNoMemory(t *testing.T) {
	for _, x := range someTypes() {
		x = roomy(x)
		for name, call := range answers() {
			y, z := call(x), call(x)
			apart(t, name+" of "+shown(x), slices.Concat(roomsOf(x), roomsOf(y), roomsOf(z)))
		}
		if !plainRight(x) {
			continue
		}
		n := roomyNode(nodeFor(x))
		y, _ := Of(n)
		z, _ := Of(n)
		apart(t, "Of "+drawnNode(n), slices.Concat(roomsOfNode(n), roomsOf(y), roomsOf(z)))
	}
}

// Kids that share memory in what is handed in have memory of their own in the answer.
func TestKidsThatShareMemory(t *testing.T) {
	kids := []api.Type{arr(2, num())}
	x := tup(api.Type{Kind: api.TyPointer, Kids: kids}, api.Type{Kind: api.TyTuple, Kids: kids}, api.Type{Kind: api.TyPointer, Kids: kids})
	for name, call := range answers() {
		apart(t, name, roomsOf(call(x)))
	}
	nodes := []api.Node{node(api.NArray, "2", intNode())}
	y, err := Of(node(api.NTuple, "", node(api.NPointer, "", nodes...), node(api.NTuple, "", nodes...), node(api.NPointer, "", nodes...)))
	if err != api.OK || !alike(y, x) {
		t.Errorf("Of: %s, error %d", shown(y), err)
	}
	apart(t, "Of", roomsOf(y))
}

func TestChangedAnswersChangeNothing(t *testing.T) {
	for _, x := range someTypes() {
		x = roomy(x)
		before := whole(x)
		for name, call := range answers() {
			y := call(x)
			want := drawn(y)
			spoil(y.Kids)
			wants(t, name+": what was handed in", whole(x), before)
			wants(t, name+" again", drawn(call(x)), want)
		}
		if !plainRight(x) {
			continue
		}
		n := roomyNode(nodeFor(x))
		beforeNode := wholeNode(n)
		y, _ := Of(n)
		want := drawn(y)
		spoil(y.Kids)
		wants(t, "Of: what was handed in", wholeNode(n), beforeNode)
		y, _ = Of(n)
		wants(t, "Of again", drawn(y), want)
	}
}

func TestChangedArgumentsChangeNoAnswer(t *testing.T) {
	for _, x := range someTypes() {
		for name, call := range answers() {
			arg := roomy(x)
			y := call(arg)
			want := drawn(y)
			spoil(arg.Kids)
			wants(t, name+" behind a change", drawn(y), want)
			wants(t, name+" of another one", drawn(call(x)), want)
		}
		n := roomyNode(nodeFor(rightOrInt(x)))
		y, _ := Of(n)
		want := drawn(y)
		spoilNodes(n.Kids)
		wants(t, "Of behind a change", drawn(y), want)
		s := Text(x)
		arg := roomy(x)
		wants(t, "Text of a copy", Text(arg), s)
		spoil(arg.Kids)
		wants(t, "Text behind a change of a copy", Text(x), s)
	}
}

// rightOrInt answers an int in the place of what is not right.
func rightOrInt(x api.Type) api.Type {
	if plainRight(x) {
		return x
	}
	return num()
}

func TestArgumentsAreLeftAsTheyAre(t *testing.T) {
	for _, x := range someTypes() {
		x = roomy(x)
		other := roomy(x)
		before := whole(x)
		Right(x)
		Size(x)
		Scalar(x)
		Offset(x, 0)
		Offset(x, len(x.Kids)-1)
		Offset(x, x.Count-1)
		Same(x, other)
		Same(other, x)
		Same(x, x)
		Text(x)
		Copy(x)
		Pointer(x)
		wants(t, "what was handed in", whole(x), before)
		wants(t, "what was handed in beside it", whole(other), before)
	}
	for _, n := range slices.Concat(wrongNodes(), fullNodes()[:8], []api.Node{intNode(), nodeFor(tup(num(), arr(3, ptr(num())), num()))}) {
		n = roomyNode(n)
		before := wholeNode(n)
		Of(n)
		wants(t, "the node that was handed in", wholeNode(n), before)
	}
}

// W2: again, and among others, a node comes to the same.
func TestTheSameNodesAreToldAlike(t *testing.T) {
	r := rand.New(rand.NewSource(23))
	l := slices.Concat(wrongNodes(), fullNodes())
	for range 200 {
		l = append(l, nodeFor(randomType(r, 1+r.Intn(10))))
	}
	told := func(n api.Node) string {
		x, err := Of(n)
		return strconv.Itoa(int(err)) + drawn(x)
	}
	var first []string
	for _, n := range l {
		first = append(first, told(n))
	}
	for _, i := range r.Perm(len(l)) {
		wants(t, "Of again", told(l[i]), first[i])
	}
}
