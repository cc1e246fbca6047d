package types

import (
	"math"
	"math/big"
	"math/rand"
	"slices"
	"strconv"
	"strings"

	"swage/api"
)

// The model: what the chapter's words say of a type, one by one, of all types that are in it.

// within answers a type and all that are in it.
func within(t api.Type) []api.Type {
	l := []api.Type{t}
	for i := 0; i < len(l); i++ {
		l = append(l, l[i].Kids...)
	}
	return l
}

// plainCells answers the cells of a type, however great, by the words: of one that has too few Kids as if they took none.
func plainCells(t api.Type) *big.Int {
	sum := new(big.Int)
	if t.Kind == api.TyInt || t.Kind == api.TyPointer {
		return sum.SetInt64(1)
	}
	for _, kid := range t.Kids {
		sum.Add(sum, plainCells(kid))
	}
	if t.Kind == api.TyArray {
		sum.Mul(sum, big.NewInt(int64(t.Count)))
	}
	return sum
}

// plainNest answers how many types stand in one another.
func plainNest(t api.Type) int {
	deepest := 0
	for _, kid := range t.Kids {
		deepest = max(deepest, plainNest(kid))
	}
	return deepest + 1
}

// kidsOf answers how many Kids a type of a Kind has: at least, and at most.
var kidsOf = map[int][2]int{
	api.TyInt:     {0, 0},
	api.TyPointer: {1, 1},
	api.TyArray:   {1, 1},
	api.TyTuple:   {1, api.MaxFields},
}

// plainRight tells whether a type is right.
func plainRight(t api.Type) bool {
	most := big.NewInt(api.MaxCells)
	for _, x := range within(t) {
		many, is := kidsOf[x.Kind]
		if !is || len(x.Kids) < many[0] || len(x.Kids) > many[1] {
			return false
		}
		if x.Kind == api.TyArray && (x.Count < 1 || x.Count > api.MaxCells) || x.Kind != api.TyArray && x.Count != 0 {
			return false
		}
		if plainCells(x).Cmp(most) > 0 {
			return false
		}
	}
	return plainNest(t) <= api.MaxNest
}

func plainSize(t api.Type) int {
	if !plainRight(t) {
		return 0
	}
	return int(plainCells(t).Int64())
}

// plainOffset asks the parts of a right type one by one.
func plainOffset(t api.Type, k int) (int, bool) {
	if !plainRight(t) {
		return 0, false
	}
	parts := t.Kids
	switch t.Kind {
	case api.TyArray:
		parts = slices.Repeat(t.Kids, t.Count)
	case api.TyTuple:
	default:
		return 0, false
	}
	place := 0
	for i, part := range parts {
		if i == k {
			return place, true
		}
		place += plainSize(part)
	}
	return 0, false
}

// drawn is a type as a text that tells all of it.
func drawn(t api.Type) string {
	var b strings.Builder
	draw(&b, t, math.MaxInt)
	return b.String()
}

// draw writes a type, and leaves what is in it out where the text is long enough.
func draw(b *strings.Builder, t api.Type, most int) {
	b.WriteString(strconv.Itoa(t.Kind) + "#" + strconv.Itoa(t.Count) + "{")
	for i, kid := range t.Kids {
		if b.Len() > most {
			b.WriteString(" ..")
			break
		}
		if i > 0 {
			b.WriteByte(' ')
		}
		draw(b, kid, most)
	}
	b.WriteByte('}')
}

// plainText answers the text of a type, by the words.
func plainText(t api.Type) string {
	var kids []string
	for _, kid := range t.Kids {
		kids = append(kids, plainText(kid))
	}
	few := map[int]int{api.TyInt: 0, api.TyPointer: 1, api.TyArray: 1, api.TyTuple: 1}
	if least, is := few[t.Kind]; !is || len(kids) < least {
		return "?"
	}
	return map[int]func() string{
		api.TyInt:     func() string { return "int" },
		api.TyPointer: func() string { return "*" + kids[0] },
		api.TyArray:   func() string { return "[" + strconv.Itoa(t.Count) + "]" + kids[0] },
		api.TyTuple:   func() string { return "(" + strings.Join(kids, ",") + ")" },
	}[t.Kind]()
}

// plainNumber tells whether s is a number, and which.
func plainNumber(s string) (int, bool) {
	n, err := strconv.ParseUint(s, 10, 63)
	return int(n), err == nil && strconv.FormatUint(n, 10) == s
}

// plainType answers the type of a node, and whether it is one's.
func plainType(n api.Node) (api.Type, bool) {
	kinds := map[int]int{api.NInt: api.TyInt, api.NPointer: api.TyPointer, api.NArray: api.TyArray, api.NTuple: api.TyTuple}
	t := api.Type{Kind: kinds[n.Kind]}
	number, is := plainNumber(n.Text)
	switch {
	case t.Kind == 0,
		t.Kind == api.TyInt && len(n.Kids) > 0,
		t.Kind == api.TyPointer && len(n.Kids) != 1,
		t.Kind == api.TyArray && (len(n.Kids) != 1 || !is),
		t.Kind == api.TyTuple && len(n.Kids) == 0:
		return api.Type{}, false
	case t.Kind == api.TyArray:
		t.Count = number
	}
	for _, kid := range n.Kids {
		x, is := plainType(kid)
		if !is {
			return api.Type{}, false
		}
		t.Kids = append(t.Kids, x)
	}
	return t, true
}

func plainOf(n api.Node) (api.Type, api.Errno) {
	t, is := plainType(n)
	if !is {
		return api.Type{}, api.ErrArg
	}
	if !plainRight(t) {
		return api.Type{}, api.ErrFull
	}
	return t, api.OK
}

// What is told over many types.

// lists goes over all rows of at most so many of these types.
func lists(of []api.Type, most int, visit func([]api.Type)) {
	visit(nil)
	if most == 0 {
		return
	}
	for _, x := range of {
		lists(of, most-1, func(l []api.Type) { visit(append([]api.Type{x}, l...)) })
	}
}

// smallTypes goes over all types of these Kinds, Counts, and rows of at most so many Kids.
func smallTypes(kinds, counts []int, of []api.Type, most int, visit func(api.Type)) {
	for _, kind := range kinds {
		for _, count := range counts {
			lists(of, most, func(l []api.Type) { visit(api.Type{Kind: kind, Count: count, Kids: l}) })
		}
	}
}

// randomType answers a type that is right, but for its cells perhaps, of at most many in it.
func randomType(r *rand.Rand, many int) api.Type {
	if many <= 1 {
		return api.Type{Kind: api.TyInt}
	}
	switch r.Intn(8) {
	case 0:
		return api.Type{Kind: api.TyInt}
	case 1, 2:
		return api.Type{Kind: api.TyPointer, Kids: []api.Type{randomType(r, many-1)}}
	case 3, 4:
		count := 1 + r.Intn(6)
		if r.Intn(4) == 0 {
			count = 1 + r.Intn(1<<r.Intn(21))
		}
		return api.Type{Kind: api.TyArray, Count: count, Kids: []api.Type{randomType(r, many-1)}}
	}
	t := api.Type{Kind: api.TyTuple}
	for left := many - 1; left > 0; {
		part := 1 + r.Intn(left)
		t.Kids = append(t.Kids, randomType(r, part))
		left -= part
		if r.Intn(6) == 0 {
			break
		}
	}
	return t
}

// rightOne answers a right type, of at most many in it.
func rightOne(r *rand.Rand, many int) api.Type {
	for {
		if t := randomType(r, many); plainRight(t) {
			return t
		}
	}
}

// places answers pointers to a type and to all that are in it.
func places(t *api.Type) []*api.Type {
	l := []*api.Type{t}
	for i := range t.Kids {
		l = append(l, places(&t.Kids[i])...)
	}
	return l
}

// turned goes over types that differ from t in one place: Kind, Count, a Kid more or fewer, two Kids turned round.
func turned(t api.Type, visit func(api.Type)) {
	for i := range places(&t) {
		for _, turn := range turns() {
			x := copied(t)
			turn(places(&x)[i])
			visit(x)
		}
	}
}

func turns() []func(*api.Type) {
	l := []func(*api.Type){
		func(t *api.Type) { t.Kids = append(t.Kids, api.Type{}) },
		func(t *api.Type) { t.Kids = append(t.Kids, api.Type{Kind: api.TyInt}) },
		func(t *api.Type) { t.Kids = append([]api.Type{{Kind: api.TyInt}}, t.Kids...) },
		func(t *api.Type) { t.Kids = t.Kids[:max(0, len(t.Kids)-1)] },
		func(t *api.Type) { t.Kids = t.Kids[min(1, len(t.Kids)):] },
		func(t *api.Type) { t.Kids = nil },
		func(t *api.Type) { slices.Reverse(t.Kids) },
		func(t *api.Type) { t.Count++ },
		func(t *api.Type) { t.Count-- },
		func(t *api.Type) { t.Count = -t.Count },
		func(t *api.Type) { t.Count += 1 << 32 },
		func(t *api.Type) { t.Count = api.MaxCells },
		func(t *api.Type) { t.Count = api.MaxInt },
		func(t *api.Type) { t.Count = api.MinInt },
		func(t *api.Type) { *t = api.Type{Kind: t.Kind, Count: t.Count, Kids: []api.Type{copied(*t)}} },
	}
	for kind := api.TyInt - 1; kind <= api.TyTuple+1; kind++ {
		l = append(l, func(t *api.Type) { t.Kind = kind })
	}
	return l
}

// copied is a copy that the tests make by themselves.
func copied(t api.Type) api.Type {
	kids := slices.Clone(t.Kids)
	for i := range kids {
		kids[i] = copied(kids[i])
	}
	return api.Type{Kind: t.Kind, Count: t.Count, Kids: kids}
}
