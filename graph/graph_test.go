package graph

import (
	"math/rand"
	"slices"
	"testing"

	"swage/api"
)

// edge is an edge (from, to).
type edge = [2]int

func edgesOf(l ...edge) []edge    { return l }
func rowsOf(l ...[]int) [][]int   { return l }
func rowsEqual(a, b [][]int) bool { return slices.EqualFunc(a, b, slices.Equal) }

// told is all that the calls answer of one graph.
type told struct {
	order    []int
	back     []edge
	loops    [][]int
	preds    [][]int
	critical []edge
}

// tells fails the test if g is not right, or the calls do not answer just that of it.
func tells(t *testing.T, g [][]int, want told) {
	t.Helper()
	if !Right(g) {
		t.Errorf("%v is not right", g)
	}
	if got := Order(g); !slices.Equal(got, want.order) {
		t.Errorf("Order(%v): %v; want %v", g, got, want.order)
	}
	if got := Back(g); !slices.Equal(got, want.back) {
		t.Errorf("Back(%v): %v; want %v", g, got, want.back)
	}
	if got := Loops(g); !rowsEqual(got, want.loops) {
		t.Errorf("Loops(%v): %v; want %v", g, got, want.loops)
	}
	if got := Preds(g); !rowsEqual(got, want.preds) {
		t.Errorf("Preds(%v): %v; want %v", g, got, want.preds)
	}
	if got := Critical(g); !slices.Equal(got, want.critical) {
		t.Errorf("Critical(%v): %v; want %v", g, got, want.critical)
	}
}

// reaches fails the test if Reach does not tell just those blocks.
func reaches(t *testing.T, g [][]int, from int, blocks ...int) {
	t.Helper()
	want := make([]bool, len(g))
	for _, b := range blocks {
		want[b] = true
	}
	if got := Reach(g, from); !slices.Equal(got, want) {
		t.Errorf("Reach(%v, %d): %v; want %v", g, from, got, want)
	}
}

// P6.1 to P6.4: ordinary graphs

func TestExampleOfTheChapter(t *testing.T) {
	g := rowsOf([]int{1, 2}, []int{3}, []int{3}, []int{0})
	tells(t, g, told{
		order: []int{0, 2, 1, 3},
		back:  edgesOf(edge{3, 0}),
		loops: rowsOf([]int{0, 1, 2, 3}),
		preds: rowsOf([]int{3}, []int{0}, []int{0}, []int{1, 2}),
	})
	for from := range g {
		reaches(t, g, from, 0, 1, 2, 3)
	}
}

func TestOneBlock(t *testing.T) {
	g := rowsOf(nil)
	tells(t, g, told{order: []int{0}, preds: rowsOf(nil)})
	reaches(t, g, 0, 0)
	tells(t, rowsOf([]int{}), told{order: []int{0}, preds: rowsOf(nil)})
}

func TestRowOfBlocks(t *testing.T) {
	g := rowsOf([]int{1}, []int{2}, []int{3}, nil)
	tells(t, g, told{order: []int{0, 1, 2, 3}, preds: rowsOf(nil, []int{0}, []int{1}, []int{2})})
	reaches(t, g, 0, 0, 1, 2, 3)
	reaches(t, g, 1, 1, 2, 3)
	reaches(t, g, 3, 3)
}

func TestRowOfBlocksWhoseNumbersFall(t *testing.T) {
	g := rowsOf([]int{3}, nil, []int{1}, []int{2})
	tells(t, g, told{order: []int{0, 3, 2, 1}, preds: rowsOf(nil, []int{2}, []int{3}, []int{0})})
	reaches(t, g, 2, 1, 2)
}

func TestBranchThatJoinsAgain(t *testing.T) {
	tells(t, rowsOf([]int{1, 2}, []int{3}, []int{3}, nil), told{
		order: []int{0, 2, 1, 3},
		preds: rowsOf(nil, []int{0}, []int{0}, []int{1, 2}),
	})
	tells(t, rowsOf([]int{2, 1}, []int{3}, []int{3}, nil), told{ // what is behind a block stands in an order
		order: []int{0, 1, 2, 3},
		preds: rowsOf(nil, []int{0}, []int{0}, []int{1, 2}),
	})
}

func TestBranchWithOneSide(t *testing.T) {
	g := rowsOf([]int{1, 2}, []int{2}, nil)
	tells(t, g, told{
		order:    []int{0, 1, 2},
		preds:    rowsOf(nil, []int{0}, []int{0, 1}),
		critical: edgesOf(edge{0, 2}),
	})
	g[0] = []int{2, 1}
	tells(t, g, told{
		order:    []int{0, 1, 2},
		preds:    rowsOf(nil, []int{0}, []int{0, 1}),
		critical: edgesOf(edge{0, 2}),
	})
}

func TestBranchOfEight(t *testing.T) {
	g := rowsOf([]int{8, 1, 7, 2, 6, 3, 5, 4}, nil, nil, nil, nil, nil, nil, nil, nil)
	preds := make([][]int, 9)
	for i := 1; i <= 8; i++ {
		preds[i] = []int{0}
	}
	tells(t, g, told{order: []int{0, 4, 5, 3, 6, 2, 7, 1, 8}, preds: preds})
	reaches(t, g, 5, 5)
}

func TestLoop(t *testing.T) {
	g := rowsOf([]int{1}, []int{2, 3}, []int{1}, nil)
	tells(t, g, told{
		order: []int{0, 1, 3, 2},
		back:  edgesOf(edge{2, 1}),
		loops: rowsOf([]int{1, 2}),
		preds: rowsOf(nil, []int{0, 2}, []int{1}, []int{1}),
	})
	reaches(t, g, 2, 1, 2, 3)
	reaches(t, g, 3, 3)
}

func TestLoopThatIsLeftAtItsEnd(t *testing.T) {
	tells(t, rowsOf([]int{1}, []int{2}, []int{1, 3}, nil), told{
		order:    []int{0, 1, 2, 3},
		back:     edgesOf(edge{2, 1}),
		loops:    rowsOf([]int{1, 2}),
		preds:    rowsOf(nil, []int{0, 2}, []int{1}, []int{2}),
		critical: edgesOf(edge{2, 1}),
	})
}

func TestHeadStandsFirstWhateverItsNumber(t *testing.T) {
	tells(t, rowsOf([]int{4}, []int{2}, []int{4}, nil, []int{1, 3}), told{
		order: []int{0, 4, 3, 1, 2},
		back:  edgesOf(edge{2, 4}),
		loops: rowsOf([]int{4, 1, 2}),
		preds: rowsOf(nil, []int{4}, []int{1}, []int{4}, []int{0, 2}),
	})
	tells(t, rowsOf([]int{3}, []int{3}, nil, []int{5}, []int{2, 1}, []int{4}), told{
		order: []int{0, 3, 5, 4, 1, 2},
		back:  edgesOf(edge{1, 3}),
		loops: rowsOf([]int{3, 1, 4, 5}),
		preds: rowsOf(nil, []int{4}, []int{4}, []int{0, 1}, []int{5}, []int{3}),
	})
}

func TestLoopInALoop(t *testing.T) {
	tells(t, rowsOf([]int{1}, []int{2, 5}, []int{3, 4}, []int{2}, []int{1}, nil), told{
		order:    []int{0, 1, 5, 2, 4, 3},
		back:     edgesOf(edge{3, 2}, edge{4, 1}),
		loops:    rowsOf([]int{1, 2, 3, 4}, []int{2, 3}),
		preds:    rowsOf(nil, []int{0, 4}, []int{1, 3}, []int{2}, []int{2}, []int{1}),
		critical: edgesOf(edge{1, 2}),
	})
}

func TestLoopInALoopWithOneEnd(t *testing.T) {
	tells(t, rowsOf([]int{1}, []int{2}, []int{3}, []int{2, 1, 4}, nil), told{
		order:    []int{0, 1, 2, 3, 4},
		back:     edgesOf(edge{3, 2}, edge{3, 1}), // as block 3 has them
		loops:    rowsOf([]int{1, 2, 3}, []int{2, 3}),
		preds:    rowsOf(nil, []int{0, 3}, []int{1, 3}, []int{2}, []int{3}),
		critical: edgesOf(edge{3, 2}, edge{3, 1}),
	})
}

func TestTwoLoopsWithOneHead(t *testing.T) {
	tells(t, rowsOf([]int{1}, []int{2, 3, 4}, []int{1}, []int{1}, nil), told{
		order: []int{0, 1, 4, 3, 2},
		back:  edgesOf(edge{2, 1}, edge{3, 1}),
		loops: rowsOf([]int{1, 2, 3}),
		preds: rowsOf(nil, []int{0, 2, 3}, []int{1}, []int{1}, []int{1}),
	})
}

func TestTwoLoopsOneBehindTheOther(t *testing.T) {
	tells(t, rowsOf([]int{1}, []int{2, 3}, []int{1}, []int{4, 5}, []int{3}, nil), told{
		order:    []int{0, 1, 3, 5, 4, 2},
		back:     edgesOf(edge{2, 1}, edge{4, 3}),
		loops:    rowsOf([]int{1, 2}, []int{3, 4}),
		preds:    rowsOf(nil, []int{0, 2}, []int{1}, []int{1, 4}, []int{3}, []int{3}),
		critical: edgesOf(edge{1, 3}),
	})
}

func TestLoopWhoseHeadIsTheEntry(t *testing.T) {
	tells(t, rowsOf([]int{1, 3}, []int{2}, []int{0}, nil), told{
		order: []int{0, 3, 1, 2},
		back:  edgesOf(edge{2, 0}),
		loops: rowsOf([]int{0, 1, 2}),
		preds: rowsOf([]int{2}, []int{0}, []int{1}, []int{0}),
	})
}

func TestEdgeFromABlockToItself(t *testing.T) {
	tells(t, rowsOf([]int{0}), told{order: []int{0}, back: edgesOf(edge{0, 0}), loops: rowsOf([]int{0}), preds: rowsOf([]int{0})})
	tells(t, rowsOf([]int{1}, []int{1, 2}, nil), told{
		order:    []int{0, 1, 2},
		back:     edgesOf(edge{1, 1}),
		loops:    rowsOf([]int{1}), // what is ahead of the head is not of its loop
		preds:    rowsOf(nil, []int{0, 1}, []int{1}),
		critical: edgesOf(edge{1, 1}),
	})
	tells(t, rowsOf([]int{1}, []int{1, 2}, []int{1}), told{ // beside another loop of the same head
		order:    []int{0, 1, 2},
		back:     edgesOf(edge{1, 1}, edge{2, 1}),
		loops:    rowsOf([]int{1, 2}),
		preds:    rowsOf(nil, []int{0, 1, 2}, []int{1}),
		critical: edgesOf(edge{1, 1}),
	})
}

func TestTheSameEdgeTwice(t *testing.T) {
	tells(t, rowsOf([]int{1, 1}, nil), told{
		order:    []int{0, 1},
		preds:    rowsOf(nil, []int{0, 0}),
		critical: edgesOf(edge{0, 1}, edge{0, 1}),
	})
	tells(t, rowsOf([]int{1}, []int{0, 2, 0}, nil), told{
		order:    []int{0, 1, 2},
		back:     edgesOf(edge{1, 0}),
		loops:    rowsOf([]int{0, 1}),
		preds:    rowsOf([]int{1, 1}, []int{0}, []int{1}),
		critical: edgesOf(edge{1, 0}, edge{1, 0}),
	})
	tells(t, rowsOf([]int{0, 0, 0, 0, 0, 0, 0, 0}), told{
		order:    []int{0},
		back:     edgesOf(edge{0, 0}),
		loops:    rowsOf([]int{0}),
		preds:    rowsOf([]int{0, 0, 0, 0, 0, 0, 0, 0}),
		critical: slices.Repeat(edgesOf(edge{0, 0}), 8),
	})
}

func TestBackEdgesByRisingFromAndAsABlockHasThem(t *testing.T) {
	tells(t, rowsOf([]int{4}, []int{4, 4, 1, 4}, []int{1, 4, 2, 1, 0}, []int{2}, []int{3}), told{
		order: []int{0, 4, 3, 2, 1},
		back:  edgesOf(edge{1, 4}, edge{1, 1}, edge{2, 4}, edge{2, 2}, edge{2, 0}),
		loops: rowsOf([]int{0, 1, 2, 3, 4}, []int{1}, []int{2}, []int{4, 1, 2, 3}), // from 1 one comes to 2 by 4 and 3
		preds: rowsOf([]int{2}, []int{1, 2, 2}, []int{2, 3}, []int{4}, []int{0, 1, 1, 1, 2}),
		critical: edgesOf(
			edge{1, 4}, edge{1, 4}, edge{1, 1}, edge{1, 4},
			edge{2, 1}, edge{2, 4}, edge{2, 2}, edge{2, 1},
		),
	})
}

func TestLoopThatIsEnteredAtTwoPlaces(t *testing.T) {
	tells(t, rowsOf([]int{1, 2}, []int{2}, []int{1}), told{
		order:    []int{0, 1, 2},
		back:     edgesOf(edge{2, 1}),
		loops:    rowsOf([]int{1, 0, 2}), // from 0 one comes to 2 without 1
		preds:    rowsOf(nil, []int{0, 2}, []int{0, 1}),
		critical: edgesOf(edge{0, 1}, edge{0, 2}),
	})
}

func TestBlocksThatAreNotReached(t *testing.T) {
	g := rowsOf([]int{1}, []int{2, 0}, nil, []int{1, 4}, []int{3, 4, 2}, []int{5})
	tells(t, g, told{
		order: []int{0, 1, 2},
		back:  edgesOf(edge{1, 0}), // none of 4 to 3, 4 to 4, 5 to 5
		loops: rowsOf([]int{0, 1}),
		preds: rowsOf([]int{1}, []int{0, 3}, []int{1, 4}, []int{4}, []int{3, 4}, []int{5}),
		critical: edgesOf(
			edge{1, 2}, edge{3, 1}, edge{3, 4}, edge{4, 4}, edge{4, 2}, // edges count, reached or not
		),
	})
	reaches(t, g, 0, 0, 1, 2)
	reaches(t, g, 1, 0, 1, 2)
	reaches(t, g, 3, 0, 1, 2, 3, 4)
	reaches(t, g, 4, 0, 1, 2, 3, 4)
	reaches(t, g, 5, 5)
}

func TestBlocksThatAreNotReachedAreOfNoLoop(t *testing.T) {
	tells(t, rowsOf([]int{2}, []int{3, 4}, []int{3}, []int{2}, []int{1, 2}), told{
		order:    []int{0, 2, 3},
		back:     edgesOf(edge{3, 2}),
		loops:    rowsOf([]int{2, 3}), // from 1 and 4 one comes to 3 without 2, but they are not reached
		preds:    rowsOf(nil, []int{4}, []int{0, 3, 4}, []int{1, 2}, []int{1}),
		critical: edgesOf(edge{1, 3}, edge{4, 2}),
	})
}

func TestEntryAlone(t *testing.T) {
	tells(t, rowsOf(nil, []int{0, 2}, []int{1, 0}), told{
		order:    []int{0},
		preds:    rowsOf([]int{1, 2}, []int{2}, []int{1}),
		critical: edgesOf(edge{1, 0}, edge{2, 0}),
	})
}

// P6.1: Reach from what is no block

func TestReachFromNoBlock(t *testing.T) {
	for _, g := range [][][]int{rowsOf(nil), rowsOf([]int{1, 2}, []int{3}, []int{3}, []int{0, 4}, []int{4}, []int{0})} {
		for _, from := range []int{len(g), len(g) + 1, api.MaxBlocks, api.MaxInt, -1, -len(g), api.MinInt} {
			if got := Reach(g, from); len(got) != 0 {
				t.Errorf("Reach(%v, %d): %v", g, from, got)
			}
		}
	}
}

// P6.1: graphs that are not right

// nothing fails the test if a call tells something of g.
func nothing(t *testing.T, what string, g [][]int) {
	t.Helper()
	if Right(g) {
		t.Errorf("Right of %s", what)
	}
	for _, from := range []int{0, 1, len(g) - 1, len(g), -1, api.MaxInt, api.MinInt} {
		if got := Reach(g, from); len(got) != 0 {
			t.Errorf("Reach of %s from %d: %d blocks", what, from, len(got))
		}
	}
	if got := Preds(g); len(got) != 0 {
		t.Errorf("Preds of %s: %d blocks", what, len(got))
	}
	if got := Order(g); len(got) != 0 {
		t.Errorf("Order of %s: %d blocks", what, len(got))
	}
	if got := Back(g); len(got) != 0 {
		t.Errorf("Back of %s: %d edges", what, len(got))
	}
	if got := Loops(g); len(got) != 0 {
		t.Errorf("Loops of %s: %d rows", what, len(got))
	}
	if got := Critical(g); len(got) != 0 {
		t.Errorf("Critical of %s: %d edges", what, len(got))
	}
}

func TestNoBlocks(t *testing.T) {
	nothing(t, "nil", nil)
	nothing(t, "no blocks", [][]int{})
	nothing(t, "no blocks with spare room", rowsOf([]int{0}, []int{0})[:0])
}

// ring is a graph of n blocks, each with the next one and the first one behind it twice.
func ring(n int) [][]int {
	g := make([][]int, n)
	for i := range g {
		g[i] = []int{(i + 1) % n, 0, 0}
	}
	return g
}

func TestAsManyBlocksAsMayBe(t *testing.T) {
	if !Right(ring(api.MaxBlocks)) || !Right(make([][]int, api.MaxBlocks)) {
		t.Error("MaxBlocks blocks are not right")
	}
	nothing(t, "one block too many", ring(api.MaxBlocks+1))
	nothing(t, "one block without edges too many", make([][]int, api.MaxBlocks+1))
	nothing(t, "many blocks too many", ring(3*api.MaxBlocks))
}

func TestAsManyBehindABlockAsMayBe(t *testing.T) {
	for _, blocks := range []int{1, 2, 10} {
		for at := range blocks {
			g := ring(blocks)
			g[at] = slices.Repeat([]int{blocks - 1}, 8)
			if !Right(g) {
				t.Errorf("8 behind block %d of %d are not right", at, blocks)
			}
			for _, many := range []int{9, 10, 16, 1000} {
				g[at] = slices.Repeat([]int{blocks - 1}, many)
				nothing(t, "too many behind a block", g)
			}
		}
	}
}

func TestNoBlockBehindABlock(t *testing.T) {
	for _, blocks := range []int{1, 2, 5} {
		for _, wrong := range []int{blocks, blocks + 1, api.MaxBlocks, api.MaxBlocks + 1, api.MaxInt, -1, -2, -blocks, api.MinInt, 1 << 32, -1 << 32} {
			for at := range blocks {
				g := ring(blocks)
				g[at] = []int{wrong}
				nothing(t, "a number that is no block", g)
				for i := range 8 {
					g[at] = make([]int, 8)
					g[at][i] = wrong
					nothing(t, "a number that is no block beside blocks", g)
				}
			}
		}
	}
}

func TestWrongWhereOneDoesNotCome(t *testing.T) {
	nothing(t, "no block behind one that is not reached", rowsOf(nil, []int{2}))
	nothing(t, "too many behind one that is not reached", rowsOf(nil, slices.Repeat([]int{0}, 9)))
}

// TestRightOfAllSmallRows asks of each row of numbers near the blocks whether it may stand behind one.
func TestRightOfAllSmallRows(t *testing.T) {
	for _, row := range allRows(-1, 3, 3) {
		for at := range 3 {
			g := rowsOf([]int{1, 2}, []int{2}, nil)
			g[at] = row
			want := true
			for _, to := range row {
				want = want && to >= 0 && to <= 2
			}
			if Right(g) != want {
				t.Errorf("Right(%v): %v", g, !want)
			}
		}
	}
}

// P6.1 to P6.4: against the chapter's words

// wordsOrder keeps the way from the entry to where one stands, and how much behind each block of it was asked.
func wordsOrder(g [][]int) []int {
	type stand struct{ block, asked int }
	way := []stand{{block: 0}}
	met := []int{0}
	var order []int
	for len(way) > 0 {
		here := &way[len(way)-1]
		if here.asked == len(g[here.block]) {
			order = slices.Insert(order, 0, here.block)
			way = way[:len(way)-1]
			continue
		}
		next := g[here.block][here.asked]
		here.asked++
		if !slices.Contains(met, next) {
			met = append(met, next)
			way = append(way, stand{block: next})
		}
	}
	return order
}

// wordsComes tells of each two blocks whether one comes from the first to the second by edges that do not touch the block without, or by none.
func wordsComes(g [][]int, without int) [][]bool {
	comes := make([][]bool, len(g))
	for a := range g {
		comes[a] = make([]bool, len(g))
		comes[a][a] = true
	}
	for from, behind := range g {
		for _, to := range behind {
			if from != without && to != without {
				comes[from][to] = true
			}
		}
	}
	for over := range g {
		for a := range g {
			for b := range g {
				comes[a][b] = comes[a][b] || comes[a][over] && comes[over][b]
			}
		}
	}
	return comes
}

func wordsPreds(g [][]int) [][]int {
	preds := make([][]int, len(g))
	for b := range g {
		for from := range g {
			for _, to := range g[from] {
				if to == b {
					preds[b] = append(preds[b], from)
				}
			}
		}
	}
	return preds
}

func wordsBack(g [][]int) []edge {
	order := wordsOrder(g)
	var back []edge
	for from := range g {
		for _, to := range g[from] {
			place := slices.Index(order, from)
			if place >= 0 && slices.Index(order, to) <= place && !slices.Contains(back, edge{from, to}) {
				back = append(back, edge{from, to})
			}
		}
	}
	return back
}

func wordsLoops(g [][]int) [][]int {
	back := wordsBack(g)
	reached := wordsComes(g, -1)[0]
	var loops [][]int
	for head := range g {
		if !slices.ContainsFunc(back, func(e edge) bool { return e[1] == head }) {
			continue
		}
		comes := wordsComes(g, head)
		row := []int{head}
		for b := range g {
			within := slices.ContainsFunc(back, func(e edge) bool { return e[1] == head && comes[b][e[0]] })
			if b != head && reached[b] && within {
				row = append(row, b)
			}
		}
		loops = append(loops, row)
	}
	return loops
}

func wordsCritical(g [][]int) []edge {
	preds := wordsPreds(g)
	var critical []edge
	for from := range g {
		for _, to := range g[from] {
			if len(g[from]) > 1 && len(preds[to]) > 1 {
				critical = append(critical, edge{from, to})
			}
		}
	}
	return critical
}

// asTheWordsSay holds all calls of a right graph against the chapter's words.
func asTheWordsSay(t *testing.T, g [][]int) {
	t.Helper()
	tells(t, g, told{order: wordsOrder(g), back: wordsBack(g), loops: wordsLoops(g), preds: wordsPreds(g), critical: wordsCritical(g)})
	for from, comes := range wordsComes(g, -1) {
		if got := Reach(g, from); !slices.Equal(got, comes) {
			t.Errorf("Reach(%v, %d): %v; want %v", g, from, got, comes)
		}
	}
	follows(t, g)
	if t.Failed() {
		t.FailNow()
	}
}

// allRows are the rows of at most that many numbers from low to high.
func allRows(low, high, most int) [][]int {
	rows := rowsOf(nil)
	for done := 0; ; {
		from := done
		done = len(rows)
		if len(rows[from]) == most {
			return rows
		}
		for _, row := range rows[from:done] {
			for n := low; n <= high; n++ {
				rows = append(rows, append(slices.Clone(row), n))
			}
		}
	}
}

// allGraphs hands every graph of that many blocks, with at most that many behind each, to f.
func allGraphs(blocks, most int, f func(g [][]int)) {
	rows := allRows(0, blocks-1, most)
	g := make([][]int, blocks)
	var fill func(at int)
	fill = func(at int) {
		if at == blocks {
			f(g)
			return
		}
		for _, row := range rows {
			g[at] = row
			fill(at + 1)
		}
	}
	fill(0)
}

func TestAllSmallGraphs(t *testing.T) {
	for _, c := range []struct{ blocks, most, graphs int }{
		{1, 8, 9}, {2, 4, 31 * 31}, {3, 3, 40 * 40 * 40}, {4, 2, 21 * 21 * 21 * 21}, {5, 1, 6 * 6 * 6 * 6 * 6},
	} {
		graphs := 0
		allGraphs(c.blocks, c.most, func(g [][]int) {
			graphs++
			asTheWordsSay(t, g)
		})
		if graphs != c.graphs {
			t.Errorf("%d graphs of %d blocks; want %d", graphs, c.blocks, c.graphs)
		}
	}
}

func TestManyGreaterGraphs(t *testing.T) {
	r := rand.New(rand.NewSource(6))
	for range 3000 {
		g := make([][]int, 2+r.Intn(24))
		most := 1 + r.Intn(8)
		for i := range g {
			for range r.Intn(most + 1) {
				g[i] = append(g[i], r.Intn(len(g)))
			}
		}
		asTheWordsSay(t, g)
	}
}

// P6.6, P6.7

// follows holds what follows from the promises against what the calls answer of g.
func follows(t *testing.T, g [][]int) {
	t.Helper()
	order, back, reached := Order(g), Back(g), Reach(g, 0)
	if order[0] != 0 {
		t.Errorf("Order(%v): %v begins elsewhere than at the entry", g, order)
	}
	times := make([]int, len(g))
	place := make([]int, len(g))
	for i, b := range order {
		times[b]++
		place[b] = i
	}
	for b, r := range reached {
		if times[b] > 1 || r != (times[b] == 1) {
			t.Errorf("Order(%v): %v has block %d %d times", g, order, b, times[b])
		}
	}
	for from := range g {
		for _, to := range g[from] {
			if reached[from] && place[from] >= place[to] && !slices.Contains(back, edge{from, to}) {
				t.Errorf("Order(%v): %v: the edge %d to %d does not lead onward", g, order, from, to)
			}
		}
	}
	if len(back) == 0 && len(Loops(g)) != 0 {
		t.Errorf("Loops(%v): %v without back edges", g, Loops(g))
	}
	followsOfPreds(t, g)
}

// followsOfPreds turns the edges of Preds round, and asks Preds of Preds where that is a right graph.
func followsOfPreds(t *testing.T, g [][]int) {
	t.Helper()
	preds := Preds(g)
	turned := make([][]int, len(g))
	want := make([][]int, len(g))
	for i := range g {
		for _, from := range preds[i] {
			turned[from] = append(turned[from], i)
		}
		want[i] = slices.Clone(g[i])
		slices.Sort(want[i])
	}
	if !rowsEqual(turned, want) {
		t.Errorf("Preds(%v): %v are not its edges", g, preds)
	}
	if Right(preds) && !rowsEqual(Preds(preds), want) {
		t.Errorf("Preds of Preds(%v): %v", g, Preds(preds))
	}
}

func TestPredsWithMoreAheadThanMayBeBehind(t *testing.T) {
	g := make([][]int, 20)
	var want []int
	for i := range g {
		g[i] = []int{7, 7}
		want = append(want, i, i)
	}
	preds := Preds(g)
	if !slices.Equal(preds[7], want) {
		t.Errorf("Preds: %v; want %v", preds[7], want)
	}
	nothing(t, "preds with more than 8", preds)
}

// Graphs as great as may be

func TestDeepRow(t *testing.T) {
	const n = api.MaxBlocks
	g := make([][]int, n)
	want := make([]int, n)
	for i := range n - 1 {
		g[i] = []int{i + 1}
		want[i+1] = i + 1
	}
	if got := Order(g); !slices.Equal(got, want) || len(Back(g)) != 0 || len(Loops(g)) != 0 || len(Critical(g)) != 0 {
		t.Errorf("Order of a row of MaxBlocks blocks: %v", got)
	}
	if slices.Contains(Reach(g, 0), false) || slices.Index(Reach(g, n-1), true) != n-1 {
		t.Error("Reach in a row of MaxBlocks blocks")
	}
	g[n-1] = []int{0}
	if got := Back(g); !slices.Equal(got, edgesOf(edge{n - 1, 0})) {
		t.Errorf("Back: %v", got)
	}
	if got := Loops(g); !rowsEqual(got, rowsOf(want)) {
		t.Error("Loops of a ring of MaxBlocks blocks")
	}
}

// TestAsManyLoopsAsMayBe has a loop at each block, with all blocks behind it.
func TestAsManyLoopsAsMayBe(t *testing.T) {
	const n = api.MaxBlocks
	g := make([][]int, n)
	for i := range g {
		g[i] = []int{min(i+1, n-1), i, max(i-1, 0), max(i-2, 0), max(i-3, 0), max(i-4, 0), max(i-5, 0), max(i-6, 0)}
	}
	loops := Loops(g)
	if len(loops) != n {
		t.Fatalf("%d loops", len(loops))
	}
	for head, row := range loops {
		if len(row) != n-head {
			t.Fatalf("%d blocks of the loop of block %d", len(row), head)
		}
		for i, b := range row {
			if b != head+i {
				t.Fatalf("block %d in the loop of block %d", b, head)
			}
		}
	}
	if order := Order(g); len(order) != n || !slices.IsSorted(order) {
		t.Error("Order is not that of the row")
	}
}

// TestWalkThatIsLeftEarly: who ranges over a walk may leave it anywhere.
func TestWalkThatIsLeftEarly(t *testing.T) {
	g := rowsOf([]int{1, 2}, []int{3}, []int{3}, []int{0})
	left := []int{3, 1, 2, 0}
	for many := 1; many <= len(left); many++ {
		var got []int
		for block := range leaving(g, 0, make([]bool, len(g))) {
			got = append(got, block)
			if len(got) == many {
				break
			}
		}
		if !slices.Equal(got, left[:many]) {
			t.Errorf("left %v; want %v", got, left[:many])
		}
	}
	for from, to := range edges(g) {
		if from == 1 && to == 3 {
			break
		}
		if from > 0 {
			t.Errorf("edge %d to %d", from, to)
		}
	}
}

// P6.5

const mark = -77

// spacious is a graph whose list and rows have spare room that holds something.
func spacious() [][]int {
	g := rowsOf(
		[]int{1, 2, 1, mark, mark}[:3], []int{3, mark}[:1], []int{3, 2, mark}[:2], []int{0, 4, 1, 0, mark}[:4],
		make([]int, 3)[:0], []int{5, 3, 4, mark}[:3], []int{mark}, []int{mark},
	)
	return g[:6]
}

// deep answers all that g holds, its spare room too, as new memory.
func deep(g [][]int) [][]int {
	all := make([][]int, cap(g))
	for i, row := range g[:cap(g)] {
		all[i] = slices.Clone(row[:cap(row)])
	}
	return all
}

// spoil writes over all that a list has room for.
func spoil[T any](l []T, with T) {
	l = l[:cap(l)]
	for i := range l {
		l[i] = with
	}
}

func spoilRows(g [][]int) {
	for _, row := range g[:cap(g)] {
		spoil(row, mark)
	}
	spoil(g, nil)
}

// answers is what the calls answered of one graph.
type answers struct {
	reach    []bool
	preds    [][]int
	order    []int
	back     []edge
	loops    [][]int
	critical []edge
}

func ask(g [][]int) answers {
	return answers{Reach(g, 2), Preds(g), Order(g), Back(g), Loops(g), Critical(g)}
}

func (a answers) same(b answers) bool {
	return slices.Equal(a.reach, b.reach) && rowsEqual(a.preds, b.preds) && slices.Equal(a.order, b.order) &&
		slices.Equal(a.back, b.back) && rowsEqual(a.loops, b.loops) && slices.Equal(a.critical, b.critical)
}

func (a answers) spoil() {
	spoil(a.reach, true)
	spoilRows(a.preds)
	spoil(a.order, mark)
	spoil(a.back, edge{mark, mark})
	spoilRows(a.loops)
	spoil(a.critical, edge{mark, mark})
}

// ofSpacious is written out: it shares no memory with any graph.
func ofSpacious() answers {
	return answers{
		reach:    []bool{true, true, true, true, true, false},
		preds:    rowsOf([]int{3, 3}, []int{0, 0, 3}, []int{0, 2}, []int{1, 2, 5}, []int{3, 5}, []int{5}),
		order:    []int{0, 2, 1, 3, 4},
		back:     edgesOf(edge{2, 2}, edge{3, 0}, edge{3, 1}),
		loops:    rowsOf([]int{0, 1, 2, 3}, []int{1, 0, 2, 3}, []int{2}),
		critical: edgesOf(edge{0, 1}, edge{0, 2}, edge{0, 1}, edge{2, 3}, edge{2, 2}, edge{3, 0}, edge{3, 4}, edge{3, 1}, edge{3, 0}, edge{5, 3}, edge{5, 4}),
	}
}

func TestWhatIsHandedInIsNotChanged(t *testing.T) {
	for _, wrong := range []bool{false, true} { // not of a graph that is not right, either
		g := spacious()
		if wrong {
			g[4] = append(g[4], 6)
		}
		before := deep(g)
		calls := []struct {
			name string
			call func()
		}{
			{"Right", func() { Right(g) }},
			{"Reach", func() { Reach(g, 2) }},
			{"Preds", func() { Preds(g) }},
			{"Order", func() { Order(g) }},
			{"Back", func() { Back(g) }},
			{"Loops", func() { Loops(g) }},
			{"Critical", func() { Critical(g) }},
		}
		for _, c := range calls {
			c.call()
			if !rowsEqual(deep(g), before) {
				t.Fatalf("%s changed its graph: %v; was %v", c.name, deep(g), before)
			}
		}
	}
}

func TestWhatIsHandedInIsNotKept(t *testing.T) {
	g := spacious()
	first := ask(g)
	if !first.same(ofSpacious()) {
		t.Fatalf("%+v; want %+v", first, ofSpacious())
	}
	spoilRows(g)
	if !first.same(ofSpacious()) {
		t.Errorf("the answers changed with the graph: %+v", first)
	}
	other := rowsOf(nil, []int{0})
	if got := ask(other); len(got.order) != 1 || len(got.reach) != 0 || len(got.preds) != 2 || len(got.back)+len(got.loops)+len(got.critical) != 0 {
		t.Errorf("another graph's answers: %+v", got)
	}
	if again := ask(spacious()); !again.same(ofSpacious()) {
		t.Errorf("the same graph, asked later: %+v", again)
	}
}

func TestWhatIsAnsweredIsNew(t *testing.T) {
	g := spacious()
	before := deep(g)
	first, second := ask(g), ask(g)
	first.spoil()
	if !rowsEqual(deep(g), before) {
		t.Errorf("the graph changed with the answers: %v; was %v", deep(g), before)
	}
	if !second.same(ofSpacious()) {
		t.Errorf("answers changed with those of the call before: %+v", second)
	}
	if third := ask(g); !third.same(ofSpacious()) {
		t.Errorf("answers changed with those of a call before: %+v", third)
	}
}

// apart fails the test if two rows of one answer share memory, their spare room included.
func apart(t *testing.T, name string, rows [][]int) {
	t.Helper()
	for i, row := range rows {
		before := deep(rows)
		spoil(row, mark-1-i)
		for j, now := range deep(rows) {
			if j != i && !slices.Equal(now, before[j]) {
				t.Errorf("%s: the rows %d and %d share memory", name, i, j)
			}
		}
	}
}

func TestRowsOfAnAnswerShareNoMemory(t *testing.T) {
	for _, g := range [][][]int{spacious(), ring(40), rowsOf([]int{0, 1}, []int{0, 1})} {
		apart(t, "Preds", Preds(g))
		apart(t, "Loops", Loops(g))
	}
}

func TestGraphWhoseRowsShareMemory(t *testing.T) {
	row := []int{1, 2, 0}
	g := rowsOf(row, row, row[:2])
	asTheWordsSay(t, g)
	if !slices.Equal(row, []int{1, 2, 0}) {
		t.Errorf("the row became %v", row)
	}
	answered := ask(g)
	answered.spoil()
	if !slices.Equal(row, []int{1, 2, 0}) {
		t.Errorf("the row became %v with the answers", row)
	}
}
