package memory

import (
	"maps"
	"slices"
	"testing"

	"swage/api"
)

// far are numbers no cell, count or floor may be, such as would come to one if bits were lost or a sum ran over among them.
var far = []int{
	api.MinInt, api.MinInt + 1, -1 << 32, -1<<32 + 1, -api.MaxCells, -2, -1,
	api.MaxCells + 1, 1 << 32, 1<<32 + 1, 1<<32 + 2, 1 << 62, api.MaxInt - 1, api.MaxInt,
}

// values are numbers that cells are to hold whole.
var values = []int{api.MinInt, -1 << 32, -1, 1, 255, 256, 1 << 31, 1 << 32, 1<<53 + 1, api.MaxInt}

// made fails the test if there is no memory of that many cells.
func made(t *testing.T, cells int) *Memory {
	t.Helper()
	x, err := New(cells)
	if x == nil || err != api.OK {
		t.Fatalf("New(%d): error %d", cells, err)
	}
	return x
}

func alloc(t *testing.T, x *Memory, n, want int) {
	t.Helper()
	if at, err := x.Alloc(n); at != want || err != api.OK {
		t.Fatalf("Alloc(%d): %d, error %d; want %d", n, at, err, want)
	}
}

func setFloor(t *testing.T, x *Memory, at int) {
	t.Helper()
	if err := x.SetFloor(at); err != api.OK {
		t.Fatalf("SetFloor(%d): error %d", at, err)
	}
}

func store(t *testing.T, x *Memory, at, v int) {
	t.Helper()
	if err := x.Store(at, v); err != api.OK {
		t.Fatalf("Store(%d, %d): error %d", at, v, err)
	}
}

func holds(t *testing.T, x *Memory, at, want int) {
	t.Helper()
	if v, err := x.Load(at); v != want || err != api.OK {
		t.Errorf("Load(%d): %d, error %d; want %d", at, v, err, want)
	}
}

func ends(t *testing.T, x *Memory, cells, heap, floor int) {
	t.Helper()
	if x.Cells() != cells || x.Heap() != heap || x.Floor() != floor {
		t.Errorf("cells %d, heap %d, floor %d; want %d, %d, %d", x.Cells(), x.Heap(), x.Floor(), cells, heap, floor)
	}
}

// notThere tells it by Load and by Store.
func notThere(t *testing.T, x *Memory, at int) {
	t.Helper()
	if v, err := x.Load(at); v != 0 || err != api.ErrAddr {
		t.Errorf("Load(%d): %d, error %d; want error %d", at, v, err, api.ErrAddr)
	}
	if err := x.Store(at, 77); err != api.ErrAddr {
		t.Errorf("Store(%d, 77): error %d; want %d", at, err, api.ErrAddr)
	}
}

// model is a memory by the document's words: held has the cells that are there, and no others.
type model struct {
	cells, heap, floor int
	held               map[int]int
}

func newModel(cells int) *model {
	return &model{cells: cells, heap: 1, floor: cells, held: map[int]int{}}
}

func (m *model) there(at int) bool {
	return at >= 1 && at < m.heap || at >= m.floor && at < m.cells
}

// settle lets go of the cells that are not there any more, and lets those that came anew hold 0.
func (m *model) settle() {
	for at := range m.cells {
		if _, had := m.held[at]; !m.there(at) {
			delete(m.held, at)
		} else if !had {
			m.held[at] = 0
		}
	}
}

func (m *model) setFloor(at int) api.Errno {
	if at < m.heap || at > m.cells {
		return api.ErrStack
	}
	m.floor = at
	m.settle()
	return api.OK
}

func (m *model) alloc(n int) (int, api.Errno) {
	if n < 0 {
		return 0, api.ErrArg
	}
	if n > m.cells || m.heap+n > m.floor {
		return 0, api.ErrMemory
	}
	first := m.heap
	m.heap += n
	m.settle()
	return first, api.OK
}

func (m *model) store(at, v int) api.Errno {
	if !m.there(at) {
		return api.ErrAddr
	}
	m.held[at] = v
	return api.OK
}

func (m *model) copy() *model {
	return &model{m.cells, m.heap, m.floor, maps.Clone(m.held)}
}

// like fails the test if x is to be told from m by any call that changes nothing.
func like(t *testing.T, x *Memory, m *model) {
	t.Helper()
	ends(t, x, m.cells, m.heap, m.floor)
	if x.Heap() < 1 || x.Heap() > x.Floor() || x.Floor() > x.Cells() {
		t.Fatalf("heap %d and floor %d of %d cells have met", x.Heap(), x.Floor(), x.Cells())
	}
	for _, at := range far {
		if v, err := x.Load(at); v != 0 || err != api.ErrAddr {
			t.Fatalf("Load(%d): %d, error %d", at, v, err)
		}
	}
	for at := -2; at <= m.cells+2; at++ {
		want, held := m.held[at]
		v, err := x.Load(at)
		if held && (v != want || err != api.OK) || !held && (v != 0 || err != api.ErrAddr) {
			t.Fatalf("Load(%d): %d, error %d; want %d, there %t", at, v, err, want, held)
		}
	}
}

// P3.1

func TestNewRefusesOtherCounts(t *testing.T) {
	for _, cells := range append([]int{0, api.MaxCells + 2, 2 * api.MaxCells}, far...) {
		if x, err := New(cells); x != nil || err != api.ErrArg {
			t.Errorf("New(%d): %v, error %d", cells, x != nil, err)
		}
	}
}

func TestNew(t *testing.T) {
	for _, cells := range []int{1, 2, 3, 10, 1000, api.MaxCells - 1, api.MaxCells} {
		x := made(t, cells)
		ends(t, x, cells, 1, cells)
		for _, at := range []int{-1, 0, 1, cells - 1, cells, cells + 1} { // neither heap nor stack has any yet
			notThere(t, x, at)
		}
	}
}

func TestNewCellsHoldNought(t *testing.T) {
	for _, cells := range []int{1, 2, 10, api.MaxCells} {
		stack := made(t, cells)
		setFloor(t, stack, 1)
		heap := made(t, cells)
		alloc(t, heap, cells-1, 1)
		for at := 1; at < cells; at++ {
			holds(t, stack, at, 0)
			holds(t, heap, at, 0)
		}
	}
}

func TestOneCellIsNeverThere(t *testing.T) {
	x := made(t, 1)
	setFloor(t, x, 1)
	alloc(t, x, 0, 1)
	if err := x.SetFloor(0); err != api.ErrStack {
		t.Errorf("SetFloor(0): error %d", err)
	}
	if at, err := x.Alloc(1); at != 0 || err != api.ErrMemory {
		t.Errorf("Alloc(1): %d, error %d", at, err)
	}
	ends(t, x, 1, 1, 1)
	for at := -1; at <= 2; at++ {
		notThere(t, x, at)
	}
}

func TestMemoriesAreTheirOwn(t *testing.T) {
	x, y := made(t, 10), made(t, 10)
	alloc(t, x, 4, 1)
	store(t, x, 2, 5)
	ends(t, y, 10, 1, 10)
	alloc(t, y, 4, 1)
	holds(t, y, 2, 0)
}

// P3.2

func TestSetFloorRefuses(t *testing.T) {
	x := made(t, 10)
	alloc(t, x, 3, 1)
	setFloor(t, x, 8)
	for _, at := range append([]int{0, 1, 2, 3, 11, 12}, far...) {
		if err := x.SetFloor(at); err != api.ErrStack {
			t.Errorf("SetFloor(%d): error %d", at, err)
		}
		ends(t, x, 10, 4, 8)
	}
}

func TestSetFloorAtItsEdges(t *testing.T) {
	x := made(t, 10)
	alloc(t, x, 3, 1)
	for _, at := range []int{4, 10, 9, 9, 4, 5, 10} {
		setFloor(t, x, at)
		ends(t, x, 10, 4, at)
		for cell := 4; cell <= 11; cell++ {
			if cell >= at && cell < 10 {
				holds(t, x, cell, 0)
			} else {
				notThere(t, x, cell)
			}
		}
	}
}

func TestSetFloorOfManyCells(t *testing.T) {
	x := made(t, api.MaxCells)
	setFloor(t, x, 1)
	store(t, x, 1, 5)
	store(t, x, api.MaxCells-1, 6)
	notThere(t, x, 0)
	notThere(t, x, api.MaxCells)
	setFloor(t, x, 2)
	notThere(t, x, 1)
	holds(t, x, api.MaxCells-1, 6)
	setFloor(t, x, api.MaxCells)
	notThere(t, x, api.MaxCells-1)
	setFloor(t, x, 1)
	holds(t, x, 1, 0)
	holds(t, x, api.MaxCells-1, 0)
}

func TestStackCellsThatStayKeepWhatTheyHold(t *testing.T) {
	x := made(t, 10)
	setFloor(t, x, 7)
	for at := 7; at < 10; at++ {
		store(t, x, at, at*11)
	}
	setFloor(t, x, 7) // the same one again
	setFloor(t, x, 4)
	for at, want := range map[int]int{4: 0, 5: 0, 6: 0, 7: 77, 8: 88, 9: 99} {
		holds(t, x, at, want)
	}
	setFloor(t, x, 8)
	holds(t, x, 8, 88)
	holds(t, x, 9, 99)
}

func TestStackCellsThatComeAgainHoldNought(t *testing.T) {
	x := made(t, 10)
	setFloor(t, x, 4)
	for at := 4; at < 10; at++ {
		store(t, x, at, at*11)
	}
	setFloor(t, x, 8)
	for at := 4; at < 8; at++ {
		notThere(t, x, at)
	}
	setFloor(t, x, 5)
	notThere(t, x, 4)
	for at, want := range map[int]int{5: 0, 6: 0, 7: 0, 8: 88, 9: 99} {
		holds(t, x, at, want)
	}
	setFloor(t, x, 4)
	holds(t, x, 4, 0)
}

// P3.3

func TestAllocOneBehindTheOther(t *testing.T) {
	x := made(t, 20)
	alloc(t, x, 3, 1)
	alloc(t, x, 0, 4)
	alloc(t, x, 1, 4)
	alloc(t, x, 5, 5)
	alloc(t, x, 0, 10)
	ends(t, x, 20, 10, 20)
	for at := 1; at < 10; at++ {
		holds(t, x, at, 0)
		store(t, x, at, at)
	}
	notThere(t, x, 10)
	alloc(t, x, 2, 10)
	for at := 1; at < 10; at++ {
		holds(t, x, at, at)
	}
	holds(t, x, 10, 0)
	holds(t, x, 11, 0)
	notThere(t, x, 12)
}

func TestAllocRefusesCountsBelowNought(t *testing.T) {
	x := made(t, 10)
	alloc(t, x, 3, 1)
	for _, n := range far {
		if n >= 0 {
			continue
		}
		if at, err := x.Alloc(n); at != 0 || err != api.ErrArg {
			t.Errorf("Alloc(%d): %d, error %d", n, at, err)
		}
		ends(t, x, 10, 4, 10)
	}
	alloc(t, x, 6, 4)
	if at, err := x.Alloc(-1); at != 0 || err != api.ErrArg { // also where nothing is left
		t.Errorf("Alloc(-1): %d, error %d", at, err)
	}
}

func TestAllocRefusesTooMany(t *testing.T) {
	x := made(t, 10)
	alloc(t, x, 3, 1)
	setFloor(t, x, 8)
	counts := []int{5, 6, 7, 9, 10, 11, api.MaxCells, api.MaxInt - 3, api.MaxInt - 4} // 4 to 7 are left
	for _, n := range append(counts, far...) {
		if n < 0 {
			continue
		}
		if at, err := x.Alloc(n); at != 0 || err != api.ErrMemory {
			t.Errorf("Alloc(%d): %d, error %d", n, at, err)
		}
		ends(t, x, 10, 4, 8)
	}
}

func TestHeapMeetsTheFloor(t *testing.T) {
	x := made(t, 10)
	setFloor(t, x, 8)
	alloc(t, x, 7, 1)
	ends(t, x, 10, 8, 8)
	for at := 1; at < 10; at++ { // all but cell 0 are there
		store(t, x, at, -at)
	}
	alloc(t, x, 0, 8)
	if at, err := x.Alloc(1); at != 0 || err != api.ErrMemory {
		t.Errorf("Alloc(1): %d, error %d", at, err)
	}
	setFloor(t, x, 8)
	if err := x.SetFloor(7); err != api.ErrStack {
		t.Errorf("SetFloor(7): error %d", err)
	}
	for at := 1; at < 10; at++ {
		holds(t, x, at, -at)
	}
	notThere(t, x, 0)
	notThere(t, x, 10)
	setFloor(t, x, 9)
	notThere(t, x, 8)
	alloc(t, x, 1, 8)
	holds(t, x, 8, 0)
	holds(t, x, 7, -7)
	holds(t, x, 9, -9)
}

func TestHeapTakesWhatWasTheStacks(t *testing.T) {
	x := made(t, 10)
	setFloor(t, x, 1)
	for at := 1; at < 10; at++ {
		store(t, x, at, at*11)
	}
	setFloor(t, x, 9)
	alloc(t, x, 3, 1)
	alloc(t, x, 5, 4)
	for at := 1; at < 9; at++ {
		holds(t, x, at, 0)
	}
	holds(t, x, 9, 99)
}

func TestAllocOfManyCells(t *testing.T) {
	x := made(t, api.MaxCells)
	if at, err := x.Alloc(api.MaxCells); at != 0 || err != api.ErrMemory {
		t.Errorf("Alloc(MaxCells): %d, error %d", at, err)
	}
	alloc(t, x, api.MaxCells-1, 1)
	ends(t, x, api.MaxCells, api.MaxCells, api.MaxCells)
	store(t, x, 1, 5)
	store(t, x, api.MaxCells-1, 6)
	holds(t, x, 1, 5)
	holds(t, x, api.MaxCells-1, 6)
	notThere(t, x, 0)
	notThere(t, x, api.MaxCells)
}

// P3.4

func TestStoreAndLoad(t *testing.T) {
	x := made(t, 10)
	alloc(t, x, 3, 1)
	setFloor(t, x, 7)
	there := []int{1, 2, 3, 7, 8, 9}
	for _, v := range values {
		for i, at := range there {
			store(t, x, at, v+i)
		}
		for i, at := range there {
			holds(t, x, at, v+i)
			holds(t, x, at, v+i) // a load changes nothing
		}
	}
}

func TestCellsThatAreNotThere(t *testing.T) {
	x := made(t, 10)
	alloc(t, x, 3, 1)
	setFloor(t, x, 7)
	for _, at := range append([]int{0, 4, 5, 6, 10, 11}, far...) { // 4 is the heap's end, 6 the one below the floor
		notThere(t, x, at)
	}
	setFloor(t, x, 4) // what was refused has left nothing behind
	for at := 1; at < 10; at++ {
		holds(t, x, at, 0)
	}
}

// busy is a memory with all kinds of cells, and its model.
func busy(t *testing.T) (*Memory, *model) {
	t.Helper()
	x, m := made(t, 12), newModel(12)
	setFloor(t, x, 5)
	m.setFloor(5)
	for at := 5; at < 12; at++ {
		store(t, x, at, at*11)
		m.store(at, at*11)
	}
	setFloor(t, x, 8)
	m.setFloor(8)
	alloc(t, x, 3, 1)
	m.alloc(3)
	for at := 1; at < 4; at++ {
		store(t, x, at, -at)
		m.store(at, -at)
	}
	return x, m
}

// stir changes all that can be changed of what busy makes.
func stir(t *testing.T, x *Memory, m *model) {
	t.Helper()
	for _, at := range []int{1, 3, 8, 11} {
		store(t, x, at, 1000+at)
		m.store(at, 1000+at)
	}
	alloc(t, x, 2, 4)
	m.alloc(2)
	setFloor(t, x, 7)
	m.setFloor(7)
	store(t, x, 5, 55)
	m.store(5, 55)
	store(t, x, 7, 70)
	m.store(7, 70)
}

func TestCopyIsLikeIt(t *testing.T) {
	x, m := busy(t)
	y := x.Copy()
	if y == nil || y == x {
		t.Fatal("Copy is no other memory")
	}
	like(t, x, m)
	like(t, y, m)
	like(t, y.Copy(), m)
	fresh := made(t, 1).Copy()
	ends(t, fresh, 1, 1, 1)
}

func TestCopyGoesItsOwnWay(t *testing.T) {
	x, m := busy(t)
	y := x.Copy()
	stir(t, x, m.copy())
	like(t, y, m) // what is done with the first one is not seen in the copy
	moved := m.copy()
	stir(t, y, moved)
	like(t, y, moved)
}

func TestCopyLeavesTheFirstOne(t *testing.T) {
	x, m := busy(t)
	y := x.Copy()
	stir(t, y, m.copy())
	like(t, x, m) // what is done with the copy is not seen in the first one
	moved := m.copy()
	stir(t, x, moved)
	like(t, x, moved)
}

func TestCopyClearsWhatComesAnew(t *testing.T) {
	x, _ := busy(t) // cells 5 to 7 were stored, and are not there
	y := x.Copy()
	setFloor(t, y, 6)
	alloc(t, y, 2, 4)
	for at := 4; at < 8; at++ {
		holds(t, y, at, 0)
	}
	holds(t, y, 8, 88)
}

func TestCopyOfManyCells(t *testing.T) {
	x := made(t, api.MaxCells)
	alloc(t, x, api.MaxCells/2, 1)
	setFloor(t, x, api.MaxCells/2+1)
	for at := 1; at < api.MaxCells; at++ {
		store(t, x, at, at*3)
	}
	y := x.Copy()
	for at := 1; at < api.MaxCells; at++ {
		store(t, x, at, 1)
	}
	for at := 1; at < api.MaxCells; at++ {
		holds(t, y, at, at*3)
	}
}

// P3.5

func TestErrorsChangeNothing(t *testing.T) {
	x, m := busy(t)
	for _, at := range append([]int{0, 1, 3, 13}, far...) {
		if err := x.SetFloor(at); err != api.ErrStack {
			t.Errorf("SetFloor(%d): error %d", at, err)
		}
		like(t, x, m)
	}
	for _, n := range append([]int{5, 12}, far...) {
		if at, err := x.Alloc(n); at != 0 || err == api.OK {
			t.Errorf("Alloc(%d): %d, error %d", n, at, err)
		}
		like(t, x, m)
	}
	for _, at := range append([]int{0, 4, 7, 12}, far...) {
		notThere(t, x, at)
		like(t, x, m)
	}
	stir(t, x, m) // and it goes on as if they had not been
	like(t, x, m)
}

// P3.6

// dice is a row of numbers that look like chance, the same at each run.
type dice uint64

func (d *dice) below(n int) int {
	*d = *d*6364136223846793005 + 1442695040888963407
	return int(uint64(*d)>>33) % n
}

// turn makes one call of x and of m, chosen by d, and fails the test if they answer unlike.
func turn(t *testing.T, d *dice, x *Memory, m *model) {
	t.Helper()
	switch d.below(8) {
	case 0, 1:
		at := d.below(m.cells+4) - 2
		if got, want := x.SetFloor(at), m.setFloor(at); got != want {
			t.Fatalf("SetFloor(%d): error %d; want %d", at, got, want)
		}
	case 2:
		n := d.below(m.cells/3+3) - 1
		got, err := x.Alloc(n)
		want, wantErr := m.alloc(n)
		if got != want || err != wantErr {
			t.Fatalf("Alloc(%d): %d, error %d; want %d, error %d", n, got, err, want, wantErr)
		}
	case 3:
		at := far[d.below(len(far))]
		if got := x.Store(at, 9); got != api.ErrAddr {
			t.Fatalf("Store(%d, 9): error %d", at, got)
		}
	default:
		at, v := d.below(m.cells+4)-2, values[d.below(len(values))]+d.below(100)
		if got, want := x.Store(at, v), m.store(at, v); got != want {
			t.Fatalf("Store(%d, %d): error %d; want %d", at, v, got, want)
		}
	}
}

func TestManyCallsAgainstTheModel(t *testing.T) {
	var d dice = 3
	for round := range 400 {
		cells := 1 + d.below(30)
		x, m := made(t, cells), newModel(cells)
		for range 60 {
			turn(t, &d, x, m)
			like(t, x, m)
		}
		y, n := x.Copy(), m.copy()
		for range 30 { // both go on, turn by turn, each its own way
			turn(t, &d, x, m)
			turn(t, &d, y, n)
			like(t, x, m)
			like(t, y, n)
		}
		if t.Failed() {
			t.Fatalf("in round %d", round)
		}
	}
}

func TestSameCallsSameAnswers(t *testing.T) {
	run := func() []int {
		var d dice = 5
		x := made(t, 40)
		var l []int
		for range 500 {
			at, alloced := x.Alloc(d.below(3) - 1)
			floored := x.SetFloor(d.below(44) - 2)
			place := d.below(44) - 2
			stored := x.Store(place, d.below(1000))
			v, loaded := x.Load(d.below(44) - 2)
			l = append(l, at, int(alloced), int(floored), int(stored), v, int(loaded))
		}
		return l
	}
	if !slices.Equal(run(), run()) {
		t.Error("the same calls were answered unlike")
	}
}

func TestNoOtherCellChanges(t *testing.T) {
	x, m := busy(t)
	for _, at := range []int{1, 2, 3, 8, 9, 10, 11} {
		store(t, x, at, at*1000)
		m.store(at, at*1000)
		like(t, x, m)
	}
}

// The example of the document.
func TestExample(t *testing.T) {
	x := made(t, 10)
	alloc(t, x, 3, 1)
	holds(t, x, 3, 0)
	notThere(t, x, 4)
	if err := x.SetFloor(3); err != api.ErrStack {
		t.Errorf("SetFloor(3): error %d", err)
	}
}
