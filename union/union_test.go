package union

import (
	"cmp"
	"math"
	"math/bits"
	"math/rand"
	"slices"
	"strconv"
	"testing"
)

func row[K any](l ...K) []K { return l }

// alike tells whether two keys are one in the order, in which NaN is one thing too.
func alike[K cmp.Ordered](a, b K) bool { return cmp.Compare(a, b) == 0 }

func rowsAlike[K cmp.Ordered](a, b []K) bool { return slices.EqualFunc(a, b, alike[K]) }

// class is what one step of All tells.
type class[K cmp.Ordered] struct {
	least K
	row   []K
}

func classesAlike[K cmp.Ordered](a, b []class[K]) bool {
	return slices.EqualFunc(a, b, func(a, b class[K]) bool {
		return alike(a.least, b.least) && rowsAlike(a.row, b.row)
	})
}

// all answers what All tells.
func all[K cmp.Ordered](x *Sets[K]) []class[K] {
	var l []class[K]
	for least, row := range x.All() {
		l = append(l, class[K]{least, row})
	}
	return l
}

// plain keeps classes as rows, each rising, in the order of their least ones, as the chapter's words have it.
type plain[K cmp.Ordered] struct{ rows [][]K }

func (p *plain[K]) at(k K) int {
	return slices.IndexFunc(p.rows, func(row []K) bool {
		return slices.ContainsFunc(row, func(l K) bool { return alike(k, l) })
	})
}

func (p *plain[K]) add(k K) bool {
	if p.at(k) >= 0 {
		return false
	}
	p.rows = append(p.rows, []K{k})
	p.sort()
	return true
}

func (p *plain[K]) join(a, b K) bool {
	p.add(a)
	p.add(b)
	i, j := p.at(a), p.at(b)
	if i == j {
		return false
	}
	p.rows[i] = slices.Concat(p.rows[i], p.rows[j])
	p.rows = slices.Delete(p.rows, j, j+1)
	p.sort()
	return true
}

func (p *plain[K]) sort() {
	for _, row := range p.rows {
		slices.Sort(row)
	}
	slices.SortFunc(p.rows, func(a, b []K) int { return cmp.Compare(a[0], b[0]) })
}

func (p *plain[K]) all() []class[K] {
	var l []class[K]
	for _, row := range p.rows {
		l = append(l, class[K]{row[0], slices.Clone(row)})
	}
	return l
}

// tells fails the test if x does not tell just the classes of p, of all keys and of pairs of them.
func (p *plain[K]) tells(t *testing.T, x *Sets[K], keys []K) {
	t.Helper()
	if x.Len() != len(p.rows) {
		t.Errorf("Len: %d; want %d", x.Len(), len(p.rows))
	}
	if got, want := all(x), p.all(); !classesAlike(got, want) {
		t.Errorf("All: %v; want %v", got, want)
	}
	for _, a := range keys {
		var least K
		var row []K
		at := p.at(a)
		if at >= 0 {
			least, row = p.rows[at][0], p.rows[at]
		}
		if got, is := x.Find(a); !alike(got, least) || is != (at >= 0) {
			t.Errorf("Find(%v): %v, %v; want %v, %v", a, got, is, least, at >= 0)
		}
		if got := x.Class(a); !rowsAlike(got, row) {
			t.Errorf("Class(%v): %v; want %v", a, got, row)
		}
		for _, b := range keys {
			if got, want := x.Same(a, b), at >= 0 && at == p.at(b); got != want {
				t.Errorf("Same(%v, %v): %v; want %v", a, b, got, want)
			}
		}
	}
}

// holds fails the test if x does not hold just those classes, each rising, in the order of their least ones; strange are keys that it does not have.
func holds[K cmp.Ordered](t *testing.T, x *Sets[K], strange []K, rows ...[]K) {
	t.Helper()
	p := plain[K]{rows}
	p.tells(t, x, slices.Concat(slices.Concat(rows...), strange))
}

// wants fails the test if a call did not answer what it should.
func wants(t *testing.T, call string, got, want bool) {
	t.Helper()
	if got != want {
		t.Errorf("%s: %v; want %v", call, got, want)
	}
}

// P8.1: Add, Len

func TestExampleOfTheChapter(t *testing.T) {
	x := New[int]()
	wants(t, "Add 3", x.Add(3), true)
	wants(t, "Join 5 2", x.Join(5, 2), true)
	wants(t, "Join 2 9", x.Join(2, 9), true)
	holds(t, x, row(0, 1, 4, 10), row(2, 5, 9), row(3))
}

func TestAddedOneByOne(t *testing.T) {
	x := New[int]()
	var rows [][]int
	for _, k := range []int{4, -2, 0, 7, math.MaxInt, math.MinInt, 1} {
		wants(t, "Add of a new one", x.Add(k), true)
		rows = append(rows, row(k))
		slices.SortFunc(rows, func(a, b []int) int { return cmp.Compare(a[0], b[0]) })
		holds(t, x, row(5, -3), rows...)
	}
	for _, k := range []int{4, -2, 0, 7, math.MaxInt, math.MinInt, 1} {
		wants(t, "Add of one that is there alone", x.Add(k), false)
		holds(t, x, row(5, -3), rows...)
	}
}

func TestAddOfOneInAClass(t *testing.T) {
	x := New[string]()
	x.Join("a", "b")
	x.Join("b", "c")
	for _, k := range []string{"a", "b", "c"} {
		wants(t, "Add of one in a class", x.Add(k), false)
		holds(t, x, row("", "d"), row("a", "b", "c"))
	}
}

// P8.2: Find, Same, Class

func nothing[K cmp.Ordered](t *testing.T, keys ...K) {
	t.Helper()
	x := New[K]()
	for range 2 { // what is asked is not added by asking
		holds(t, x, keys)
	}
	for least, row := range x.All() {
		t.Errorf("All of nothing: %v, %v", least, row)
	}
	if x.Len() != 0 || len(x.Class(keys[0])) != 0 {
		t.Errorf("Len %d, Class %v", x.Len(), x.Class(keys[0]))
	}
}

func TestNothing(t *testing.T) {
	nothing(t, 0, 1, -1, math.MaxInt, math.MinInt)
	nothing(t, "", "a", "\x00", "\xff")
	nothing[uint8](t, 0, 255)
	nothing(t, 0.0, math.Inf(1), math.Inf(-1), math.NaN())
}

func TestAskingAddsNothing(t *testing.T) {
	x := New[int]()
	x.Join(3, 1)
	x.Find(7)
	x.Class(8)
	x.Same(9, 9)
	x.Same(1, 6)
	x.Same(6, 1)
	x.Find(0)
	holds(t, x, row(7, 8, 9, 6, 0), row(1, 3))
	for _, k := range []int{7, 8, 9, 6, 0} {
		wants(t, "Add of one that was asked", x.Add(k), true)
	}
}

func TestFindOfNoneIsZero(t *testing.T) {
	x := New[int]()
	x.Join(5, 4)
	if k, is := x.Find(3); k != 0 || is {
		t.Errorf("Find(3): %d, %v", k, is)
	}
	y := New[string]()
	y.Join("e", "d")
	if k, is := y.Find("c"); k != "" || is {
		t.Errorf("Find(c): %q, %v", k, is)
	}
}

// P8.3: Join

func TestJoinOfOneWithItself(t *testing.T) {
	x := New[int]()
	wants(t, "Join 4 4, not there", x.Join(4, 4), false)
	holds(t, x, row(0, 3), row(4))
	wants(t, "Join 4 4, there", x.Join(4, 4), false)
	holds(t, x, row(0, 3), row(4))
	x.Join(4, 2)
	wants(t, "Join 4 4, in a class", x.Join(4, 4), false)
	wants(t, "Join 2 2, in a class", x.Join(2, 2), false)
	holds(t, x, row(0, 3), row(2, 4))
	wants(t, "Join 0 0, the zero, not there", x.Join(0, 0), false)
	holds(t, x, row(3), row(0), row(2, 4))
}

func TestJoinOfSomeThatAreThere(t *testing.T) {
	for _, c := range []struct{ a, b int }{{1, 2}, {2, 1}} {
		x := New[int]()
		wants(t, "Join, none there", x.Join(c.a, c.b), true)
		holds(t, x, row(0, 3), row(1, 2))
		x = New[int]()
		x.Add(c.a)
		wants(t, "Join, a there", x.Join(c.a, c.b), true)
		holds(t, x, row(0, 3), row(1, 2))
		x = New[int]()
		x.Add(c.b)
		wants(t, "Join, b there", x.Join(c.a, c.b), true)
		holds(t, x, row(0, 3), row(1, 2))
		x = New[int]()
		x.Add(c.a)
		x.Add(c.b)
		wants(t, "Join, both there", x.Join(c.a, c.b), true)
		holds(t, x, row(0, 3), row(1, 2))
	}
}

func TestJoinOfTwoInOneClass(t *testing.T) {
	x := New[int]()
	x.Join(1, 2)
	x.Join(2, 3)
	x.Join(4, 3)
	x.Add(5)
	for a := 1; a <= 4; a++ {
		for b := 1; b <= 4; b++ {
			wants(t, "Join of two in one class", x.Join(a, b), false)
			holds(t, x, row(0, 6), row(1, 2, 3, 4), row(5))
		}
	}
}

func TestJoinedInARow(t *testing.T) {
	for _, turned := range []bool{false, true} {
		up, down := New[int](), New[int]()
		for i := range 9 {
			a, b, c, d := i, i+1, 9-i, 8-i
			if turned {
				a, b, c, d = b, a, d, c
			}
			wants(t, "Join upward", up.Join(a, b), true)
			wants(t, "Join downward", down.Join(c, d), true)
			var low, high []int
			for j := range i + 2 {
				low, high = append(low, j), append(high, 8-i+j)
			}
			holds(t, up, row(-1, i+2), low)
			holds(t, down, row(7-i, 10), high)
		}
	}
}

func TestJoinedInAStar(t *testing.T) {
	for middle := range 5 {
		x, y := New[int](), New[int]()
		var row []int
		for i := range 5 {
			row = append(row, i)
			wants(t, "Join of the middle and one", x.Join(middle, i), i != middle)
			wants(t, "Join of one and the middle", y.Join(i, middle), i != middle)
		}
		holds(t, x, []int{-1, 5}, row)
		holds(t, y, []int{-1, 5}, row)
	}
}

func TestJoinedInPairsThatAreJoined(t *testing.T) {
	x := New[int]()
	x.Join(0, 5)
	x.Join(6, 1)
	x.Join(2, 7)
	x.Join(8, 3)
	holds(t, x, row(4, 9), row(0, 5), row(1, 6), row(2, 7), row(3, 8))
	wants(t, "Join 5 6", x.Join(5, 6), true)
	wants(t, "Join 3 7", x.Join(3, 7), true)
	holds(t, x, row(4, 9), row(0, 1, 5, 6), row(2, 3, 7, 8))
	wants(t, "Join 8 0", x.Join(8, 0), true)
	holds(t, x, row(4, 9), row(0, 1, 2, 3, 5, 6, 7, 8))
}

// made answers sets of three classes that lie within one another in the order.
func made() *Sets[int] {
	x := New[int]()
	x.Join(6, 2)
	x.Join(2, 4)
	x.Join(5, 3)
	x.Join(7, 5)
	x.Join(9, 7)
	x.Join(1, 8)
	x.Add(0)
	return x
}

func TestJoinOfTwoClassesByAnyTwo(t *testing.T) {
	evens, odds := row(2, 4, 6), row(3, 5, 7, 9)
	for _, a := range evens {
		for _, b := range odds {
			x, y := made(), made()
			holds(t, x, row(-1, 10), row(0), row(1, 8), evens, odds)
			wants(t, "Join of a and b", x.Join(a, b), true)
			wants(t, "Join of b and a", y.Join(b, a), true)
			for _, z := range []*Sets[int]{x, y} {
				holds(t, z, row(-1, 10), row(0), row(1, 8), row(2, 3, 4, 5, 6, 7, 9))
				wants(t, "Join again", z.Join(a, b), false)
				wants(t, "Join again, turned round", z.Join(b, a), false)
				holds(t, z, row(-1, 10), row(0), row(1, 8), row(2, 3, 4, 5, 6, 7, 9))
			}
		}
	}
}

// P8.4: All

func TestAllStopped(t *testing.T) {
	x := made()
	want := all(x)
	for stop := range want {
		var got []class[int]
		for least, row := range x.All() {
			got = append(got, class[int]{least, row})
			if len(got) == stop+1 {
				break
			}
		}
		if !classesAlike(got, want[:stop+1]) {
			t.Errorf("All, stopped behind %d: %v", stop, got)
		}
		holds(t, x, row(-1, 10), row(0), row(1, 8), row(2, 4, 6), row(3, 5, 7, 9))
	}
}

// A range over a function panics if it goes on behind a stop; this one counts, as who calls it without a range is not told.
func TestAllGoesNotOnBehindAStop(t *testing.T) {
	calls := 0
	made().All()(func(int, []int) bool {
		calls++
		return calls < 2
	})
	if calls != 2 {
		t.Errorf("All went on behind a stop: %d", calls)
	}
}

func TestAllWhileThingsAreAddedAndJoined(t *testing.T) {
	changes := []func(x *Sets[int], least int){
		func(x *Sets[int], least int) { x.Add(least + 100); x.Add(-least - 100) },
		func(x *Sets[int], least int) { x.Join(least, 0) },
		func(x *Sets[int], least int) { x.Join(9, least) },
		func(x *Sets[int], least int) { x.Join(least, -1-least) },
		func(x *Sets[int], least int) { x.Join(0, 1); x.Join(1, 2); x.Join(3, 2) },
		func(x *Sets[int], least int) { x.Class(least)[0] = 50 },
	}
	for i, change := range changes {
		x := made()
		want := all(x)
		var got []class[int]
		for least, row := range x.All() {
			got = append(got, class[int]{least, row})
			change(x, least)
		}
		if !classesAlike(got, want) {
			t.Errorf("All, with change %d meanwhile: %v; want %v", i, got, want)
		}
	}
	x := made()
	for least := range x.All() {
		x.Join(least, -5)
	}
	holds(t, x, row(-1, 10), row(-5, 0, 1, 2, 3, 4, 5, 6, 7, 8, 9))
}

func TestAllHandedOutBefore(t *testing.T) {
	x := New[int]()
	over := x.All()
	told := func(want ...class[int]) {
		t.Helper()
		var got []class[int]
		for least, row := range over {
			got = append(got, class[int]{least, row})
		}
		if !classesAlike(got, want) {
			t.Errorf("All, handed out before: %v; want %v", got, want)
		}
	}
	told()
	x.Add(3)
	told(class[int]{3, row(3)})
	x.Join(5, 2)
	told(class[int]{2, row(2, 5)}, class[int]{3, row(3)})
	told(class[int]{2, row(2, 5)}, class[int]{3, row(3)})
	x.Join(3, 5)
	told(class[int]{2, row(2, 3, 5)})
	for range over {
		x.Add(9)
		break
	}
	told(class[int]{2, row(2, 3, 5)}, class[int]{9, row(9)})
}

func TestAllWithinAll(t *testing.T) {
	x := made()
	want := all(x)
	over := x.All()
	var outer []class[int]
	for least, row := range over {
		outer = append(outer, class[int]{least, row})
		var inner []class[int]
		for least, row := range over {
			inner = append(inner, class[int]{least, row})
		}
		if !classesAlike(inner, want) {
			t.Errorf("the inner All: %v", inner)
		}
	}
	if !classesAlike(outer, want) {
		t.Errorf("the outer All: %v", outer)
	}
}

// P8.5: memory

// spoil changes a row, and what room there is behind it.
func spoil(row []int) {
	row = row[:cap(row)]
	for i := range row {
		row[i] = -99
	}
}

func TestChangedAnswersChangeNoLaterOnes(t *testing.T) {
	x := made()
	same := func() {
		t.Helper()
		holds(t, x, row(-1, -99, 10), row(0), row(1, 8), row(2, 4, 6), row(3, 5, 7, 9))
	}
	for k := range 10 {
		spoil(x.Class(k))
		same()
	}
	for _, row := range x.All() {
		spoil(row)
	}
	same()
	rows := all(x)
	for i := range rows {
		spoil(rows[i].row)
	}
	same()
	spoil(x.Class(2))
	x.Join(2, 3)
	holds(t, x, row(-1, -99, 10), row(0), row(1, 8), row(2, 3, 4, 5, 6, 7, 9))
}

func TestLaterCallsChangeNoAnswer(t *testing.T) {
	x := made()
	rows := all(x)
	var classes [][]int
	for k := range 10 {
		classes = append(classes, x.Class(k))
	}
	x.Join(2, 3)
	x.Join(0, -7)
	x.Join(-7, 9)
	x.Join(1, -8)
	for i := range 1000 {
		x.Join(1, 100+i)
		x.Class(1)
	}
	want := made()
	if !classesAlike(rows, all(want)) {
		t.Errorf("All: %v", rows)
	}
	for k, class := range classes {
		if !slices.Equal(class, want.Class(k)) {
			t.Errorf("Class(%d): %v", k, class)
		}
	}
}

func TestRowsShareNothing(t *testing.T) {
	x := made()
	want := all(x)
	for i := range want {
		rows := all(x)
		a, b := x.Class(want[i].least), x.Class(want[i].least)
		spoil(rows[i].row)
		rows[i].row = append(rows[i].row, 1, 2, 3, 4)
		for j := range rows {
			if j != i && !slices.Equal(rows[j].row, want[j].row) {
				t.Errorf("row %d changed with row %d: %v", j, i, rows[j].row)
			}
		}
		spoil(a)
		if !slices.Equal(b, want[i].row) {
			t.Errorf("one Class changed with another: %v", b)
		}
	}
	for i := range want { // the room behind the rows too
		rows := all(x)
		for j := range rows {
			rows[j].row = rows[j].row[:cap(rows[j].row)]
		}
		whole := slices.Clone(rows[i].row)
		for j := range rows {
			if j != i {
				spoil(rows[j].row)
			}
		}
		if !slices.Equal(rows[i].row, whole) {
			t.Errorf("the room of row %d changed with the others: %v", i, rows[i].row)
		}
	}
}

func TestRowsOfAllChangedOnTheWay(t *testing.T) {
	x := made()
	want := all(x)
	var got []class[int]
	for least, row := range x.All() {
		got = append(got, class[int]{least, slices.Clone(row)})
		spoil(row)
	}
	if !classesAlike(got, want) {
		t.Errorf("All, its rows changed on the way: %v", got)
	}
}

func TestSetsShareNothing(t *testing.T) {
	x, y := New[int](), New[int]()
	x.Join(1, 2)
	holds(t, y, row(1, 2))
	y.Join(2, 3)
	holds(t, x, row(3), row(1, 2))
	holds(t, y, row(1), row(2, 3))
}

// P8.6: against classes reckoned plainly

// call is one that changes sets: an Add of a, or a Join of a and b, places in a row of keys.
type call struct {
	isJoin bool
	a, b   int
}

// does does a call on both sets, and fails the test if they answer otherwise.
func does[K cmp.Ordered](t *testing.T, x *Sets[K], p *plain[K], keys []K, c call) {
	t.Helper()
	if c.isJoin {
		if got, want := x.Join(keys[c.a], keys[c.b]), p.join(keys[c.a], keys[c.b]); got != want {
			t.Errorf("Join(%v, %v): %v; want %v", keys[c.a], keys[c.b], got, want)
		}
		return
	}
	if got, want := x.Add(keys[c.a]), p.add(keys[c.a]); got != want {
		t.Errorf("Add(%v): %v; want %v", keys[c.a], got, want)
	}
}

// calls answers all of them with n keys.
func calls(n int) []call {
	var l []call
	for a := range n {
		l = append(l, call{false, a, 0})
		for b := range n {
			l = append(l, call{true, a, b})
		}
	}
	return l
}

// eachRow does all rows of that many calls, and holds what they come to against classes reckoned plainly.
func eachRow[K cmp.Ordered](t *testing.T, keys []K, many int) {
	t.Helper()
	some := calls(len(keys))
	digits := make([]int, many)
	for !t.Failed() {
		x, p := New[K](), plain[K]{}
		for _, d := range digits {
			does(t, x, &p, keys, some[d])
		}
		p.tells(t, x, keys)
		at := 0
		for at < many && digits[at] == len(some)-1 {
			digits[at] = 0
			at++
		}
		if at == many {
			return
		}
		digits[at]++
	}
}

func TestAllRowsOfFewCalls(t *testing.T) {
	eachRow(t, row(0, 1), 6)
	eachRow(t, row(2, 0, -1), 4)
	eachRow(t, row(1, 3, 0, 2), 3)
	eachRow(t, row("", "b", "a"), 3)
	eachRow(t, row(0, math.NaN(), math.Inf(-1)), 3)
}

func randomCall(r *rand.Rand, n int) call {
	return call{r.Intn(4) > 0, r.Intn(n), r.Intn(n)}
}

func TestManyRowsOfCalls(t *testing.T) {
	r := rand.New(rand.NewSource(8))
	for round := range 300 {
		keys := r.Perm(2 + r.Intn(20))
		x, p := New[int](), plain[int]{}
		for range r.Intn(2 * len(keys)) {
			does(t, x, &p, keys, randomCall(r, len(keys)))
			p.tells(t, x, keys)
		}
		if t.Failed() {
			t.Fatalf("round %d", round)
		}
	}
}

func TestSameIsLikeTurnedRoundAndHandedOn(t *testing.T) {
	r := rand.New(rand.NewSource(86))
	for range 200 {
		n := 1 + r.Intn(9)
		x := New[int]()
		there := make([]bool, n)
		for range r.Intn(n + 3) {
			a, b := r.Intn(n), r.Intn(n)
			x.Join(a, b)
			there[a], there[b] = true, true
			wants(t, "Same of what was joined", x.Same(a, b), true)
		}
		for a := range n {
			wants(t, "Same of one and itself", x.Same(a, a), there[a])
			for b := range n {
				wants(t, "Same, turned round", x.Same(b, a), x.Same(a, b))
				for c := range n {
					if x.Same(a, b) && x.Same(b, c) {
						wants(t, "Same, handed on", x.Same(a, c), true)
					}
				}
			}
		}
	}
}

func TestJoinChangesNoOtherClasses(t *testing.T) {
	r := rand.New(rand.NewSource(68))
	for range 300 {
		n := 2 + r.Intn(12)
		x := New[int]()
		for range r.Intn(n) {
			x.Join(r.Intn(n), r.Intn(n))
		}
		before := all(x)
		a, b := r.Intn(n), r.Intn(n)
		x.Join(a, b)
		joined := x.Class(a)
		wants(t, "b is in a's class", slices.Contains(joined, b), true)
		after := all(x)
		for _, c := range before {
			if slices.Contains(c.row, a) || slices.Contains(c.row, b) {
				continue
			}
			if got := x.Class(c.least); !slices.Equal(got, c.row) {
				t.Errorf("Join(%d, %d) changed %v to %v", a, b, c.row, got)
			}
			if !slices.ContainsFunc(after, func(d class[int]) bool { return d.least == c.least && slices.Equal(d.row, c.row) }) {
				t.Errorf("All has no %v behind Join(%d, %d): %v", c.row, a, b, after)
			}
		}
	}
}

// P8.7: numbers and names

// joinedAlike does the same calls with the numbers 0, 1 .. and with keys that are ordered alike, and holds the classes against each other.
func joinedAlike[K cmp.Ordered](t *testing.T, keys []K) {
	t.Helper()
	if !slices.IsSorted(keys) {
		t.Fatalf("these keys do not rise: %v", keys)
	}
	r := rand.New(rand.NewSource(87))
	for range 200 {
		x, y := New[int](), New[K]()
		for range r.Intn(2 * len(keys)) {
			c := randomCall(r, len(keys))
			if c.isJoin {
				wants(t, "Join of keys ordered alike", y.Join(keys[c.a], keys[c.b]), x.Join(c.a, c.b))
			} else {
				wants(t, "Add of keys ordered alike", y.Add(keys[c.a]), x.Add(c.a))
			}
		}
		var rows [][]K
		for _, c := range all(x) {
			var row []K
			for _, at := range c.row {
				row = append(row, keys[at])
			}
			rows = append(rows, row)
		}
		p := plain[K]{rows}
		p.tells(t, y, keys)
	}
}

type name string

func TestThingsOrderedAlikeAreJoinedAlike(t *testing.T) {
	joinedAlike(t, row(math.MinInt, -7, -1, 0, 1, 2, 10, math.MaxInt))
	joinedAlike(t, row("", "\x00", "10", "9", "A", "Z", "a", "aa", "b", "\xff"))
	joinedAlike(t, row[name]("", "x", "xx", "y"))
	joinedAlike(t, row[int8](-128, -1, 0, 1, 127))
	joinedAlike(t, row[uint64](0, 1, 1<<63, math.MaxUint64))
	joinedAlike(t, row(math.NaN(), math.Inf(-1), -1, 0, 0.5, math.Inf(1)))
	joinedAlike(t, row[float32](float32(math.NaN()), 0, 1))
}

func TestZeroIsAThing(t *testing.T) {
	x, y := New[int](), New[string]()
	wants(t, "Add 0", x.Add(0), true)
	wants(t, "Add of the empty name", y.Add(""), true)
	holds(t, x, row(1), row(0))
	holds(t, y, row("a"), row(""))
	x.Join(-3, 0)
	y.Join("a", "")
	holds(t, x, row(1), row(-3, 0))
	holds(t, y, row("b"), row("", "a"))
}

// In the order of package cmp NaN is one thing, the least, and both zeros are one.
func TestNumbersThatAreNone(t *testing.T) {
	x := New[float64]()
	nan, minus := math.NaN(), math.Copysign(0, -1)
	wants(t, "Add NaN", x.Add(nan), true)
	wants(t, "Add NaN again", x.Add(nan), false)
	wants(t, "Join NaN NaN", x.Join(nan, nan), false)
	wants(t, "Join 1 NaN", x.Join(1, nan), true)
	wants(t, "Add 0", x.Add(0), true)
	wants(t, "Add -0", x.Add(minus), false)
	wants(t, "Join 0 -0", x.Join(0, minus), false)
	holds(t, x, row(2.0, -1), row(nan, 1), row(0.0))
}

// Bound: great sets

const great = 1 << 17

// greatClass fails the test if x is not one class of 0 to great-1.
func greatClass(t *testing.T, x *Sets[int]) {
	t.Helper()
	if x.Len() != 1 {
		t.Fatalf("Len: %d", x.Len())
	}
	class := x.Class(great - 1)
	if len(class) != great {
		t.Fatalf("Class: %d things", len(class))
	}
	for at := range x.things {
		if got := steps(x, at); got > bits.Len(great) {
			t.Fatalf("%d steps from %d to the top", got, at)
		}
	}
	for k, at := range class {
		if k != at {
			t.Fatalf("Class: %d at %d", at, k)
		}
		if least, is := x.Find(k); least != 0 || !is {
			t.Fatalf("Find(%d): %d, %v", k, least, is)
		}
	}
	rows := all(x)
	if len(rows) != 1 || rows[0].least != 0 || !slices.Equal(rows[0].row, class) {
		t.Fatalf("All: %d classes", len(rows))
	}
}

// steps counts those from a thing to its top: were they many, great sets would come to no end in time.
func steps(x *Sets[int], at int) int {
	n := 0
	for x.things[at].above != at && n <= bits.Len(great) {
		at = x.things[at].above
		n++
	}
	return n
}

func TestGreatSets(t *testing.T) {
	up, down, star, pairs := New[int](), New[int](), New[int](), New[int]()
	for i := range great - 1 {
		up.Join(i, i+1)
		down.Join(great-2-i, great-1-i)
		star.Join(great-1, i)
	}
	greatClass(t, up)
	greatClass(t, down)
	greatClass(t, star)
	for width := 1; width < great; width *= 2 {
		for i := 0; i < great; i += 2 * width {
			pairs.Join(i+width-1, i+2*width-1)
		}
		if want := great / (2 * width); pairs.Len() != want {
			t.Fatalf("pairs of %d: %d classes; want %d", width, pairs.Len(), want)
		}
	}
	greatClass(t, pairs)
}

func TestManyClasses(t *testing.T) {
	x := New[string]()
	for i := range great {
		x.Add(strconv.Itoa(i))
	}
	if x.Len() != great {
		t.Fatalf("Len: %d", x.Len())
	}
	before, many := "", 0
	for least, row := range x.All() {
		if least <= before || len(row) != 1 || row[0] != least {
			t.Fatalf("behind %q: %q, %v", before, least, row)
		}
		before = least
		many++
	}
	if many != great {
		t.Fatalf("All: %d classes", many)
	}
}
