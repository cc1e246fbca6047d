package types

import (
	"math"
	"math/rand"
	"slices"
	"strconv"
	"strings"
	"testing"

	"swage/api"
	"swage/parse"
	"swage/token"
)

func num() api.Type { return api.Type{Kind: api.TyInt} }

func ptr(t api.Type) api.Type { return api.Type{Kind: api.TyPointer, Kids: []api.Type{t}} }

func arr(count int, t api.Type) api.Type {
	return api.Type{Kind: api.TyArray, Count: count, Kids: []api.Type{t}}
}

func tup(kids ...api.Type) api.Type { return api.Type{Kind: api.TyTuple, Kids: kids} }

// nums answers many ints.
func nums(many int) []api.Type { return slices.Repeat([]api.Type{num()}, many) }

// shown is a type as a failure tells it.
func shown(t api.Type) string {
	var b strings.Builder
	draw(&b, t, 200)
	return b.String()
}

func wants[T comparable](t *testing.T, what string, got, want T) {
	t.Helper()
	if got != want {
		t.Errorf("%s: %v; want %v", what, got, want)
	}
}

// alike tells whether two types are alike, without the program's help.
func alike(a, b api.Type) bool {
	return a.Kind == b.Kind && a.Count == b.Count && slices.EqualFunc(a.Kids, b.Kids, alike)
}

// right fails the test if a type is not right, or does not take that many cells.
func right(t *testing.T, x api.Type, cells int) {
	t.Helper()
	wants(t, "Right of "+shown(x), Right(x), true)
	wants(t, "Size of "+shown(x), Size(x), cells)
	wants(t, "Scalar of "+shown(x), Scalar(x), x.Kind == api.TyInt || x.Kind == api.TyPointer)
}

// wrong fails the test if a type is right, or anything is told of its cells.
func wrong(t *testing.T, x api.Type) {
	t.Helper()
	wants(t, "Right of "+shown(x), Right(x), false)
	wants(t, "Size of "+shown(x), Size(x), 0)
	wants(t, "Scalar of "+shown(x), Scalar(x), false)
	for _, k := range edges() {
		nowhere(t, x, k)
	}
}

// edges answers places at which a part is asked for.
func edges() []int {
	return []int{api.MinInt, api.MinInt + 1, -1 << 32, -2, -1, 0, 1, 2, 3, 63, 64, 65,
		api.MaxCells - 1, api.MaxCells, api.MaxCells + 1, 1 << 32, api.MaxInt - 1, api.MaxInt}
}

func nowhere(t *testing.T, x api.Type, k int) {
	t.Helper()
	if n, is := Offset(x, k); n != 0 || is {
		t.Errorf("Offset of %s at %d: %d, %v; want 0, false", shown(x), k, n, is)
	}
}

func lies(t *testing.T, x api.Type, k, place int) {
	t.Helper()
	if n, is := Offset(x, k); n != place || !is {
		t.Errorf("Offset of %s at %d: %d, %v; want %d, true", shown(x), k, n, is, place)
	}
}

// nodeOf answers the node of a type that stands in a program.
func nodeOf(t *testing.T, s string) api.Node {
	t.Helper()
	l, _, err := token.Lex("func f() " + s + " {}")
	if err != api.OK {
		t.Fatalf("Lex of %s: error %d", s, err)
	}
	n, _, err := parse.Parse(l)
	if err != api.OK {
		t.Fatalf("Parse of %s: error %d", s, err)
	}
	return n.Kids[0].Kids[0]
}

// typeOf answers the type that stands in a program.
func typeOf(t *testing.T, s string) api.Type {
	t.Helper()
	x, err := Of(nodeOf(t, s))
	if err != api.OK {
		t.Fatalf("Of %s: error %d", s, err)
	}
	return x
}

// P11.1: right types, and where their parts are

func TestTypesOfEachKind(t *testing.T) {
	i := num()
	for _, c := range []struct {
		text  string
		is    api.Type
		cells int
		parts []int // their places
	}{
		{"int", i, 1, nil},
		{"*int", ptr(i), 1, nil},
		{"**int", ptr(ptr(i)), 1, nil},
		{"*[7]int", ptr(arr(7, i)), 1, nil},
		{"*(int,int)", ptr(tup(i, i)), 1, nil},
		{"[1]int", arr(1, i), 1, []int{0}},
		{"[3]int", arr(3, i), 3, []int{0, 1, 2}},
		{"[3]*int", arr(3, ptr(i)), 3, []int{0, 1, 2}},
		{"[2][3]int", arr(2, arr(3, i)), 6, []int{0, 3}},
		{"[3][2]int", arr(3, arr(2, i)), 6, []int{0, 2, 4}},
		{"[4](int,*int,int)", arr(4, tup(i, ptr(i), i)), 12, []int{0, 3, 6, 9}},
		{"[2]*[5]int", arr(2, ptr(arr(5, i))), 2, []int{0, 1}},
		{"[2][2][2][2]int", arr(2, arr(2, arr(2, arr(2, i)))), 16, []int{0, 8}},
		{"(int)", tup(i), 1, []int{0}},
		{"((int))", tup(tup(i)), 1, []int{0}},
		{"(int,int)", tup(i, i), 2, []int{0, 1}},
		{"(int,[3]*int,int)", tup(i, arr(3, ptr(i)), i), 5, []int{0, 1, 4}},
		{"([3]int,int,[2]int)", tup(arr(3, i), i, arr(2, i)), 6, []int{0, 3, 4}},
		{"((int,int),*(int,int),[2](int,int,int))", tup(tup(i, i), ptr(tup(i, i)), arr(2, tup(i, i, i))), 9, []int{0, 2, 3}},
		{"(*[9]int,[9]int,*[9]int)", tup(ptr(arr(9, i)), arr(9, i), ptr(arr(9, i))), 11, []int{0, 1, 10}},
	} {
		right(t, c.is, c.cells)
		for k, place := range c.parts {
			lies(t, c.is, k, place)
		}
		for _, k := range edges() {
			if k < 0 || k >= len(c.parts) {
				nowhere(t, c.is, k)
			}
		}
		wants(t, "Text of "+shown(c.is), Text(c.is), c.text)
		if !alike(typeOf(t, c.text), c.is) {
			t.Errorf("Of %s: %s; want %s", c.text, shown(typeOf(t, c.text)), shown(c.is))
		}
	}
}

func TestKindsThatAreNone(t *testing.T) {
	for _, kind := range []int{api.MinInt, -4, -1, 0, 5, 6, 1<<32 + api.TyInt, 1<<32 + api.TyTuple, api.MaxInt} {
		for _, many := range []int{0, 1, 2} {
			for _, count := range []int{0, 1, 3} {
				x := api.Type{Kind: kind, Count: count, Kids: nums(many)}
				wrong(t, x)
				wrong(t, tup(num(), x))
				wants(t, "Text of "+shown(x), Text(x), "?")
			}
		}
	}
}

func TestHowManyKids(t *testing.T) {
	count := map[int]int{api.TyArray: 2}
	for kind, fine := range map[int][]int{
		api.TyInt:     {0},
		api.TyPointer: {1},
		api.TyArray:   {1},
		api.TyTuple:   {1, 2, 3, 31, 32, 33, api.MaxFields - 1, api.MaxFields},
	} {
		for _, many := range []int{0, 1, 2, 3, 31, 32, 33, 63, api.MaxFields, 65, 66, 127, 128, 256, 1000} {
			x := api.Type{Kind: kind, Count: count[kind], Kids: nums(many)}
			if !slices.Contains(fine, many) {
				wrong(t, x)
				continue
			}
			cells := map[int]int{api.TyInt: 1, api.TyPointer: 1, api.TyArray: 2, api.TyTuple: many}[kind]
			right(t, x, cells)
		}
	}
	for many := range 64 {
		lies(t, tup(nums(64)...), many, many)
	}
	nowhere(t, tup(nums(64)...), 64)
}

func TestCounts(t *testing.T) {
	kids := map[int]int{api.TyPointer: 1, api.TyArray: 1, api.TyTuple: 3}
	for kind := api.TyInt; kind <= api.TyTuple; kind++ {
		for _, count := range []int{api.MinInt, api.MinInt + 1, -1 << 32, -api.MaxCells, -1, 0, 1, 2, 3, 64, 1000,
			api.MaxCells - 1, api.MaxCells, api.MaxCells + 1, 2 * api.MaxCells, 1 << 32, 1<<32 + 1, 1 << 62, api.MaxInt - 1, api.MaxInt} {
			x := api.Type{Kind: kind, Count: count, Kids: nums(kids[kind])}
			fine := count == 0
			if kind == api.TyArray {
				fine = 1 <= count && count <= api.MaxCells
			}
			if !fine {
				wrong(t, x)
				continue
			}
			cells := map[int]int{api.TyInt: 1, api.TyPointer: 1, api.TyArray: count, api.TyTuple: 3}[kind]
			right(t, x, cells)
		}
	}
}

// wrongs answers types that are not right, each for one reason.
func wrongs() []api.Type {
	i := num()
	return []api.Type{
		{},
		{Kind: -1},
		{Kind: 5, Kids: nums(1)},
		{Kind: api.TyInt, Count: 1},
		{Kind: api.TyInt, Kids: nums(1)},
		{Kind: api.TyPointer},
		{Kind: api.TyPointer, Kids: nums(2)},
		{Kind: api.TyPointer, Count: 1, Kids: nums(1)},
		{Kind: api.TyArray, Count: 1},
		{Kind: api.TyArray, Count: 1, Kids: nums(2)},
		arr(0, i),
		arr(-1, i),
		arr(api.MaxCells+1, i),
		arr(api.MaxCells, arr(2, i)),
		arr(1<<32+1, i),
		tup(),
		tup(nums(api.MaxFields + 1)...),
		{Kind: api.TyTuple, Count: 1, Kids: nums(1)},
		tup(arr(api.MaxCells, i), i),
		ptr(arr(2, arr(api.MaxCells, i))),
		{Kind: api.TyTuple, Kids: []api.Type{i, {Kind: api.TyInt, Count: -1}, i}},
	}
}

func TestKidsThatAreNotRight(t *testing.T) {
	i := num()
	inner := []func(api.Type) api.Type{
		ptr,
		func(x api.Type) api.Type { return arr(1, x) },
		func(x api.Type) api.Type { return arr(3, x) },
		func(x api.Type) api.Type { return tup(x) },
		func(x api.Type) api.Type { return tup(x, i, i) },
		func(x api.Type) api.Type { return tup(i, x, i) },
		func(x api.Type) api.Type { return tup(i, i, x) },
		func(x api.Type) api.Type { return tup(slices.Concat(nums(63), []api.Type{x})...) },
		func(x api.Type) api.Type { return tup(i, ptr(x)) },
	}
	for _, x := range wrongs() {
		wrong(t, x)
		for _, a := range inner {
			wrong(t, a(x))
			if !Right(a(i)) {
				t.Fatalf("%s is not right", shown(a(i)))
			}
			for _, b := range inner {
				wrong(t, b(a(x)))
			}
		}
		for depth := range 90 {
			wrong(t, nested(depth, inner[depth%len(inner)], x))
		}
	}
}

// nested answers x in as many others as depth tells.
func nested(depth int, in func(api.Type) api.Type, x api.Type) api.Type {
	for range depth {
		x = in(x)
	}
	return x
}

// ways answers what a type can be put in, so that it takes no more cells, each by a name.
func ways() map[string]func(api.Type) api.Type {
	i, step := num(), 0
	return map[string]func(api.Type) api.Type{
		"pointers": ptr,
		"arrays":   func(x api.Type) api.Type { return arr(1, x) },
		"tuples":   func(x api.Type) api.Type { return tup(x) },
		"first":    func(x api.Type) api.Type { return tup(x, i) },
		"last":     func(x api.Type) api.Type { return tup(i, i, x) },
		"mixed": func(x api.Type) api.Type {
			step++
			switch step % 3 {
			case 0:
				return ptr(x)
			case 1:
				return arr(2, ptr(x))
			}
			return tup(i, ptr(x))
		},
	}
}

func TestTypesInOneAnother(t *testing.T) {
	for name, in := range ways() {
		x := num()
		for plainNest(x) <= api.MaxNest {
			if !Right(x) || Size(x) < 1 {
				t.Fatalf("%s, %d deep: not right", name, plainNest(x))
			}
			x = in(x)
		}
		for range 5 {
			wrong(t, x)
			x = in(x)
		}
	}
	right(t, nested(api.MaxNest-1, ptr, num()), 1)
	wrong(t, nested(api.MaxNest, ptr, num()))
	right(t, nested(api.MaxNest-1, ways()["arrays"], num()), 1)
	wrong(t, nested(api.MaxNest, ways()["arrays"], num()))
	right(t, nested(api.MaxNest-1, ways()["last"], num()), 2*(api.MaxNest-1)+1)
	wrong(t, nested(api.MaxNest, ways()["last"], num()))
}

// What is not right in the deepest place is seen there, and so is what is too deep in one Kid among many.
func TestTheDeepestPlace(t *testing.T) {
	for name, in := range ways() {
		for _, bad := range wrongs() {
			wrong(t, nested(40, in, bad))
		}
		if name == "mixed" {
			continue
		}
		wrong(t, nested(api.MaxNest-1, in, api.Type{Kind: api.TyPointer}))
	}
	deep := nested(api.MaxNest-2, ptr, num())
	for at := range 3 {
		kids := nums(3)
		kids[at] = deep
		right(t, tup(kids...), 3)
		kids[at] = ptr(deep)
		wrong(t, tup(kids...))
	}
	right(t, arr(5, deep), 5)
	wrong(t, arr(5, ptr(deep)))
	right(t, ptr(deep), 1)
	wrong(t, ptr(ptr(deep)))
	right(t, tup(slices.Repeat([]api.Type{deep}, api.MaxFields)...), api.MaxFields)
}

func TestHowManyCells(t *testing.T) {
	const most = api.MaxCells
	i := num()
	right(t, arr(most, i), most)
	right(t, arr(most, ptr(i)), most)
	right(t, arr(most, tup(i)), most)
	right(t, arr(1, arr(most, i)), most)
	right(t, arr(most, arr(1, i)), most)
	right(t, arr(most/2, arr(2, i)), most)
	right(t, arr(2, arr(most/2, i)), most)
	right(t, arr(1024, arr(1024, i)), most)
	wrong(t, arr(most/2+1, arr(2, i)))
	wrong(t, arr(2, arr(most/2+1, i)))
	wrong(t, arr(1024, arr(1025, i)))
	wrong(t, arr(1025, arr(1024, i)))
	right(t, arr(1023, arr(1025, i)), most-1)
	right(t, arr(349525, tup(i, i, i)), most-1)
	wrong(t, arr(349526, tup(i, i, i)))
	right(t, nested(20, func(x api.Type) api.Type { return arr(2, x) }, i), most)
	wrong(t, nested(21, func(x api.Type) api.Type { return arr(2, x) }, i))
	right(t, nested(20, func(x api.Type) api.Type { return tup(x, x) }, i), most)

	right(t, tup(arr(most-1, i), i), most)
	right(t, tup(i, arr(most-1, i)), most)
	wrong(t, tup(arr(most, i), i))
	wrong(t, tup(i, arr(most, i)))
	wrong(t, tup(arr(most-1, i), i, i))
	right(t, tup(arr(most, i)), most)
	right(t, tup(arr(most/2, i), arr(most/2, i)), most)
	wrong(t, tup(arr(most/2, i), arr(most/2, i), ptr(i)))
	right(t, tup(slices.Repeat([]api.Type{arr(most/64, i)}, 64)...), most)
	wrong(t, tup(slices.Concat(slices.Repeat([]api.Type{arr(most/64, i)}, 63), []api.Type{arr(most/64+1, i)})...))
	wrong(t, tup(slices.Repeat([]api.Type{arr(most, i)}, 64)...))
	wrong(t, tup(arr(most, i), arr(most, i)))

	// A pointer takes one cell, but it has to be right to what it points.
	right(t, ptr(arr(most, i)), 1)
	wrong(t, ptr(arr(most+1, i)))
	wrong(t, ptr(arr(most, arr(2, i))))
	wrong(t, ptr(tup(arr(most, i), i)))
	right(t, arr(most, ptr(arr(most, ptr(arr(most, i))))), most)
	right(t, tup(slices.Repeat([]api.Type{ptr(arr(most, i))}, 64)...), 64)
}

// Arrays in one another whose cells pass what a number holds, or come round to few again.
func TestCellsBeyondNumbers(t *testing.T) {
	const most = api.MaxCells
	for _, x := range []api.Type{num(), ptr(num()), tup(num(), num())} {
		for _, count := range []int{2, 3, 1 << 4, 1 << 8, 1 << 10, 1 << 16, 1<<16 + 1, most - 1, most} {
			y := arr(most, x)
			for range 60 {
				y = arr(count, y)
				wrong(t, y)
				wrong(t, ptr(y))
				wrong(t, tup(x, y))
				wrong(t, tup(slices.Repeat([]api.Type{y}, 64)...))
			}
		}
	}
	wrong(t, arr(16, arr(most, arr(most, arr(most, num()))))) // 2^64
	wrong(t, arr(8, arr(most, arr(most, arr(most, num())))))  // 2^63
	wrong(t, arr(api.MaxInt, arr(api.MaxInt, num())))         // 1 modulo 2^64
	wrong(t, arr(-1, arr(-1, num())))
	wrong(t, tup(arr(-1, num()), num(), num()))
	wrong(t, tup(arr(api.MinInt, num()), arr(api.MinInt, num()), num()))
}

func TestOffsetOfArrays(t *testing.T) {
	const most = api.MaxCells
	for _, count := range []int{1, 2, 3, 7, 1000, most / 4} {
		for _, kid := range []api.Type{num(), ptr(num()), ptr(arr(9, num())), tup(num(), num(), num()), arr(4, num())} {
			x := arr(count, kid)
			size := Size(kid)
			for _, k := range slices.Concat(edges(), []int{count - 1, count, count + 1, count / 2, 6, 999, 1000}) {
				if 0 <= k && k < count {
					lies(t, x, k, k*size)
				} else {
					nowhere(t, x, k)
				}
			}
		}
	}
	lies(t, arr(most, num()), most-1, most-1)
	lies(t, arr(most/2, arr(2, num())), most/2-1, most-2)
	lies(t, arr(2, arr(most/2, num())), 1, most/2)
	nowhere(t, arr(most, num()), most)
	nowhere(t, arr(2, num()), 1<<32)
	nowhere(t, arr(2, num()), 1<<32+1)
}

func TestOffsetOfTuples(t *testing.T) {
	i := num()
	kids := []api.Type{i, arr(5, i), ptr(arr(5, i)), tup(i, arr(2, i)), i, arr(2, arr(3, tup(i, i))), ptr(i)}
	at := []int{0, 1, 6, 7, 10, 11, 23}
	for many := 1; many <= len(kids); many++ {
		x := tup(kids[:many]...)
		for _, k := range slices.Concat(edges(), []int{4, 5, 6, 7, 8}) {
			if 0 <= k && k < many {
				lies(t, x, k, at[k])
			} else {
				nowhere(t, x, k)
			}
		}
	}
	full := tup(slices.Repeat([]api.Type{arr(api.MaxCells/64, i)}, 64)...)
	for k := range 64 {
		lies(t, full, k, k*api.MaxCells/64)
	}
	nowhere(t, full, 64)
	deep := nested(api.MaxNest-2, func(x api.Type) api.Type { return tup(x, i) }, i)
	lies(t, tup(deep, deep), 1, api.MaxNest-1)
	nowhere(t, tup(tup(deep, deep)), 0)
}

func TestOffsetOfScalars(t *testing.T) {
	for _, x := range []api.Type{num(), ptr(num()), ptr(arr(5, num())), ptr(tup(num(), num())), ptr(ptr(num()))} {
		for _, k := range edges() {
			nowhere(t, x, k)
		}
	}
}

// P11.1 against the model, over all small types and many others

func agrees(t *testing.T, x api.Type) bool {
	t.Helper()
	cells := plainSize(x)
	ok := Size(x) == cells && Right(x) == (cells > 0) && Right(x) == plainRight(x) &&
		Scalar(x) == (plainRight(x) && (x.Kind == api.TyInt || x.Kind == api.TyPointer))
	if !ok {
		t.Errorf("%s: Right %v, Size %d, Scalar %v; want Size %d", shown(x), Right(x), Size(x), Scalar(x), cells)
	}
	return ok && partsAgree(t, x) && textAgrees(t, x)
}

func partsAgree(t *testing.T, x api.Type) bool {
	t.Helper()
	if x.Count > 40 { // one by one there are too many
		return true
	}
	for k := -1; k <= max(len(x.Kids), x.Count)+1; k++ {
		n, is := Offset(x, k)
		want, wantIs := plainOffset(x, k)
		if n != want || is != wantIs {
			t.Errorf("Offset of %s at %d: %d, %v; want %d, %v", shown(x), k, n, is, want, wantIs)
			return false
		}
	}
	return true
}

func textAgrees(t *testing.T, x api.Type) bool {
	t.Helper()
	if got, want := Text(x), plainText(x); got != want {
		t.Errorf("Text of %s: %q; want %q", shown(x), got, want)
		return false
	}
	return true
}

func TestAllSmallTypes(t *testing.T) {
	kinds := []int{-1, 0, api.TyInt, api.TyPointer, api.TyArray, api.TyTuple, 5}
	counts := []int{-1, 0, 1, 2, api.MaxCells}
	var leaves []api.Type
	smallTypes(kinds, counts, nil, 0, func(x api.Type) { leaves = append(leaves, x) })
	good := 0
	var first []api.Type
	smallTypes(kinds, counts, leaves, 2, func(x api.Type) {
		if agrees(t, x) && Right(x) {
			good++
			first = append(first, x)
		}
	})
	wants(t, "right types of two depths", good, 1+1+3+1+1) // int, *int, [1]int, [2]int, [MaxCells]int, (int), (int,int)
	good = 0
	smallTypes(kinds, counts, append(first, api.Type{}), 3, func(x api.Type) {
		if agrees(t, x) && Right(x) {
			good++
		}
	})
	// An int; pointers to seven; arrays of 1, of 2 and of MaxCells; tuples.
	wants(t, "right types of three depths", good, 1+7+7+6+4+tuplesOf(first, 3))
}

// tuplesOf counts the rows of at most so many of right types whose cells are not too many.
func tuplesOf(of []api.Type, most int) int {
	many := 0
	lists(of, most, func(l []api.Type) {
		if cells := plainCells(tup(l...)); len(l) > 0 && cells.Int64() <= api.MaxCells {
			many++
		}
	})
	return many
}

func TestManyTypes(t *testing.T) {
	r := rand.New(rand.NewSource(11))
	good, bad := 0, 0
	for range 3000 {
		x := randomType(r, 1+r.Intn(20))
		agrees(t, x)
		turned(x, func(y api.Type) {
			if r.Intn(6) > 0 {
				return
			}
			agrees(t, y)
			if Right(y) {
				good++
			} else {
				bad++
			}
		})
		if t.Failed() {
			return
		}
	}
	if good < 1000 || bad < 1000 {
		t.Errorf("%d right types, %d wrong ones: too few", good, bad)
	}
}

// P11.1: Same, Copy, Pointer

func TestSameTypes(t *testing.T) {
	for _, s := range []string{"int", "*int", "[3]int", "(int)", "(int,int)", "(int,[3]*int,int)", "*[2](int,(*int,int))"} {
		a, b := typeOf(t, s), typeOf(t, s)
		wants(t, "Same of "+s, Same(a, b), true)
		wants(t, "Same of "+s+" and itself", Same(a, a), true)
	}
	for _, x := range wrongs() {
		wants(t, "Same of "+shown(x), Same(x, copied(x)), true)
	}
}

func TestSameOfEmptyLists(t *testing.T) {
	for _, kind := range []int{-1, 0, api.TyInt, api.TyPointer, api.TyTuple} {
		for _, a := range [][]api.Type{nil, {}, make([]api.Type, 0, 5)} {
			for _, b := range [][]api.Type{nil, {}, make([]api.Type, 0, 5)} {
				x, y := api.Type{Kind: kind, Kids: a}, api.Type{Kind: kind, Kids: b}
				wants(t, "Same of no Kids", Same(x, y), true)
				wants(t, "Same of no Kids within", Same(tup(num(), x), tup(num(), y)), true)
				wants(t, "Right of no Kids", Right(x), kind == api.TyInt)
			}
		}
	}
}

func TestTypesThatDifferInOnePlace(t *testing.T) {
	for _, s := range []string{"int", "*int", "[3]int", "(int,*int)", "(int,[3]*int,int)", "*[2](int,(*int,int),[2]int)", "((((int,*int))))"} {
		x := typeOf(t, s)
		turned(x, func(y api.Type) {
			want := alike(x, y)
			if Same(x, y) != want || Same(y, x) != want {
				t.Errorf("Same of %s and %s: %v, %v; want %v", shown(x), shown(y), Same(x, y), Same(y, x), want)
			}
		})
	}
}

func TestSameOfManyTypes(t *testing.T) {
	r := rand.New(rand.NewSource(12))
	var l []api.Type
	for range 400 {
		l = append(l, randomType(r, 1+r.Intn(5)))
	}
	l = append(l, wrongs()...)
	for _, a := range l {
		for _, b := range l {
			if want := drawn(a) == drawn(b); Same(a, b) != want {
				t.Errorf("Same of %s and %s: %v", shown(a), shown(b), !want)
			}
		}
	}
}

func TestCopies(t *testing.T) {
	r := rand.New(rand.NewSource(13))
	for range 2000 {
		x := randomType(r, 1+r.Intn(20))
		if y := Copy(x); !alike(x, y) {
			t.Fatalf("Copy of %s: %s", shown(x), shown(y))
		}
	}
	for _, x := range wrongs() {
		if y := Copy(x); !alike(x, y) {
			t.Errorf("Copy of %s: %s", shown(x), shown(y))
		}
	}
}

func TestPointers(t *testing.T) {
	r := rand.New(rand.NewSource(14))
	for range 2000 {
		x := rightOne(r, 1+r.Intn(20))
		p := Pointer(x)
		if !alike(p, ptr(x)) {
			t.Fatalf("Pointer of %s: %s", shown(x), shown(p))
		}
		right(t, p, 1)
	}
	for _, x := range wrongs() {
		p := Pointer(x)
		if !alike(p, ptr(x)) {
			t.Errorf("Pointer of %s: %s", shown(x), shown(p))
		}
		wrong(t, p)
	}
	deep := nested(api.MaxNest-2, ptr, num())
	right(t, Pointer(deep), 1)
	wrong(t, Pointer(Pointer(deep)))
	if p := Pointer(ptr(ptr(deep))); !alike(p, nested(api.MaxNest+1, ptr, num())) {
		t.Errorf("Pointer of what is too deep: %s", shown(p))
	}
}

// P11.3

func TestTexts(t *testing.T) {
	none := api.Type{}
	i := num()
	with := func(kind, count int, kids ...api.Type) api.Type {
		return api.Type{Kind: kind, Count: count, Kids: kids}
	}
	for _, c := range []struct {
		is   api.Type
		text string
	}{
		{i, "int"},
		{with(api.TyInt, 5), "int"},
		{with(api.TyInt, 0, none), "int"},
		{with(api.TyInt, 0, i, i), "int"},
		{none, "?"},
		{with(-1, 3, i), "?"},
		{with(5, 0, i, i), "?"},
		{with(api.MaxInt, 0), "?"},
		{with(api.MinInt, 0), "?"},
		{with(api.TyPointer, 0), "?"},
		{with(api.TyPointer, 7), "?"},
		{with(api.TyPointer, 7, i), "*int"},
		{ptr(none), "*?"},
		{ptr(ptr(with(api.TyPointer, 0))), "**?"},
		{with(api.TyPointer, 0, i, none), "*int"},
		{with(api.TyPointer, 0, none, i), "*?"},
		{with(api.TyArray, 3), "?"},
		{arr(0, i), "[0]int"},
		{arr(-1, i), "[-1]int"},
		{arr(1, i), "[1]int"},
		{arr(api.MaxCells, i), "[1048576]int"},
		{arr(api.MaxCells+1, i), "[1048577]int"},
		{arr(api.MaxInt, i), "[9223372036854775807]int"},
		{arr(api.MinInt, i), "[-9223372036854775808]int"},
		{arr(3, none), "[3]?"},
		{with(api.TyArray, 3, i, ptr(i)), "[3]int"},
		{arr(2, arr(3, arr(4, i))), "[2][3][4]int"},
		{tup(), "?"},
		{with(api.TyTuple, 4), "?"},
		{with(api.TyTuple, 4, i), "(int)"},
		{tup(i), "(int)"},
		{tup(none), "(?)"},
		{tup(none, i, none), "(?,int,?)"},
		{tup(tup(), tup(i, i)), "(?,(int,int))"},
		{tup(i, ptr(arr(2, tup(i, with(api.TyArray, 0)))), i), "(int,*[2](int,?),int)"},
		{tup(nums(3)...), "(int,int,int)"},
		{tup(nums(66)...), "(int" + strings.Repeat(",int", 65) + ")"},
		{nested(200, ptr, i), strings.Repeat("*", 200) + "int"},
		{nested(200, func(x api.Type) api.Type { return tup(x) }, i), strings.Repeat("(", 200) + "int" + strings.Repeat(")", 200)},
	} {
		wants(t, "Text of "+shown(c.is), Text(c.is), c.text)
	}
}

// P11.5

// Parts lie one behind the other, from the beginning to the end, and what is in them lies in them.
func TestPartsLieOneBehindTheOther(t *testing.T) {
	r := rand.New(rand.NewSource(15))
	for range 3000 {
		tiled(t, randomType(r, 1+r.Intn(25)))
		if t.Failed() {
			return
		}
	}
	r = rand.New(rand.NewSource(16))
	for range 300 {
		turned(randomType(r, 1+r.Intn(8)), func(x api.Type) { tiled(t, x) })
		if t.Failed() {
			return
		}
	}
}

// tiled fails the test if the parts of a type are not told to fill it: of one that has none, or is not right, no part is.
func tiled(t *testing.T, x api.Type) {
	t.Helper()
	many := 0
	if Right(x) && !Scalar(x) {
		many = max(len(x.Kids), x.Count)
	}
	nowhere(t, x, -1)
	nowhere(t, x, many)
	end := 0
	for k := range min(many, 100) {
		lies(t, x, k, end)
		end += Size(x.Kids[min(k, len(x.Kids)-1)])
	}
	if many > 100 {
		end = Size(x.Kids[0]) * many
		lies(t, x, many-1, end-Size(x.Kids[0]))
	}
	if many > 0 {
		wants(t, "the end of "+shown(x), end, Size(x))
	}
	for _, kid := range x.Kids {
		tiled(t, kid)
	}
}

func TestRightTypesWithOneTextAreAlike(t *testing.T) {
	known := map[string]api.Type{}
	many := 0
	holds := func(x api.Type) {
		if !Right(x) {
			return
		}
		many++
		s := Text(x)
		y, is := known[s]
		if !is {
			known[s] = copied(x)
		} else if !Same(x, y) {
			t.Errorf("%s is the text of %s and of %s", s, shown(x), shown(y))
		}
	}
	r := rand.New(rand.NewSource(17))
	for range 2000 {
		x := randomType(r, 1+r.Intn(6))
		holds(x)
		turned(x, holds)
	}
	if many < 2*len(known) || len(known) < 1000 {
		t.Errorf("%d right types with %d texts: too few", many, len(known))
	}
}

// The text of a right type is one of the language, and stands for that type.
func TestTextsOfRightTypesAreParsed(t *testing.T) {
	r := rand.New(rand.NewSource(18))
	for range 1000 {
		x := rightOne(r, 1+r.Intn(25))
		if y := typeOf(t, Text(x)); !Same(x, y) || !alike(x, y) {
			t.Fatalf("%s is parsed as %s", Text(x), Text(y))
		}
	}
	for name, in := range ways() {
		if name == "mixed" {
			continue
		}
		x := nested(api.MaxNest-1, in, num())
		if y := typeOf(t, Text(x)); !alike(x, y) {
			t.Errorf("%s is parsed as %s", Text(x), Text(y))
		}
	}
}

// W2: what is answered hangs on the arguments alone

func TestTheSameTypesAreToldAlike(t *testing.T) {
	r := rand.New(rand.NewSource(19))
	var l []api.Type
	for range 200 {
		l = append(l, randomType(r, 1+r.Intn(15)))
	}
	l = append(l, wrongs()...)
	told := func(x api.Type) string {
		s := Text(x) + drawn(Copy(x)) + drawn(Pointer(x)) + strconv.Itoa(Size(x))
		for k := range 5 {
			n, is := Offset(x, k)
			s += " " + strconv.Itoa(n) + strconv.FormatBool(is)
		}
		return s
	}
	var first []string
	for _, x := range l {
		first = append(first, told(x))
	}
	for _, i := range r.Perm(len(l)) {
		wants(t, "again of "+shown(l[i]), told(copied(l[i])), first[i])
	}
}

// Bound: great types

func TestDeepTypes(t *testing.T) {
	const deep = 1 << 16
	for name, in := range ways() {
		if name == "mixed" {
			continue
		}
		x := nested(deep-1, in, num())
		wrong(t, x)
		y := Copy(x)
		if !Same(x, y) || !Same(y, x) {
			t.Errorf("%s: a deep copy is another one", name)
		}
		if got, want := len(Text(x)), textSize(name, deep-1); got != want {
			t.Errorf("%s: a text of %d bytes; want %d", name, got, want)
		}
		wants(t, "Same of "+name, Same(x, in(y)), false)
		wants(t, "depth of a Pointer", plainNest(Pointer(x)), deep+1)
	}
}

// textSize answers how many bytes the text of an int in so many others has.
func textSize(way string, depth int) int {
	each := map[string]int{"pointers": 1, "arrays": 3, "tuples": 2, "first": 6, "last": 10}[way]
	return each*depth + len("int")
}

func TestWideTypes(t *testing.T) {
	const many = 1 << 20
	for kind := api.TyInt; kind <= api.TyTuple; kind++ {
		x := api.Type{Kind: kind, Kids: nums(many)}
		wrong(t, x)
		if y := Copy(x); !Same(x, y) || len(y.Kids) != many {
			t.Errorf("Kind %d: a wide copy is another one", kind)
		}
		wants(t, "Kids of what a Pointer is to", len(Pointer(x).Kids[0].Kids), many)
	}
	wants(t, "a wide text", len(Text(tup(nums(many)...))), 4*many+1)
	wants(t, "a text of many", strings.Count(Text(tup(slices.Repeat([]api.Type{arr(math.MaxInt, num())}, 1000)...)), "[9223372036854775807]int"), 1000)
}

// A right type may have far more parts than cells: those that pointers lead to.
func TestRightTypesOfManyParts(t *testing.T) {
	x := ptr(tup(nums(64)...))
	for range 2 {
		x = ptr(tup(slices.Repeat([]api.Type{x}, 64)...))
		right(t, x, 1)
		lies(t, x.Kids[0], 63, 63)
	}
	if y := Copy(x); !Same(x, y) {
		t.Error("a copy is another one")
	}
}
