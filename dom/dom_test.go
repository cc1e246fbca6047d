package dom

import (
	"math/rand"
	"slices"
	"testing"

	"swage/api"
)

func row(l ...int) []int          { return l }
func rowsOf(l ...[]int) [][]int   { return l }
func rowsEqual(a, b [][]int) bool { return slices.EqualFunc(a, b, slices.Equal) }

// told is what the calls answer of one graph.
type told struct {
	idom     []int
	depth    []int
	kids     [][]int
	frontier [][]int
}

// tells fails the test if the calls do not answer just that of g.
func tells(t *testing.T, g [][]int, want told) {
	t.Helper()
	idom := Idom(g)
	if !slices.Equal(idom, want.idom) {
		t.Errorf("Idom(%v): %v; want %v", g, idom, want.idom)
	}
	if got := Depth(idom); !slices.Equal(got, want.depth) {
		t.Errorf("Depth(%v): %v; want %v", idom, got, want.depth)
	}
	if got := Kids(idom); !rowsEqual(got, want.kids) {
		t.Errorf("Kids(%v): %v; want %v", idom, got, want.kids)
	}
	if got := Frontier(g); !rowsEqual(got, want.frontier) {
		t.Errorf("Frontier(%v): %v; want %v", g, got, want.frontier)
	}
}

// dominated fails the test if those that a dominates are others than blocks.
func dominated(t *testing.T, g [][]int, a int, blocks ...int) {
	t.Helper()
	idom := Idom(g)
	for b := range g {
		if got, want := Dominates(idom, a, b), slices.Contains(blocks, b); got != want {
			t.Errorf("Dominates(%v, %d, %d): %v; want %v", idom, a, b, got, want)
		}
	}
}

// iterates fails the test if Iterated(g, at) is not want.
func iterates(t *testing.T, g [][]int, at []int, want ...int) {
	t.Helper()
	if got := Iterated(g, at); !slices.Equal(got, want) {
		t.Errorf("Iterated(%v, %v): %v; want %v", g, at, got, want)
	}
}

// P7.1 to P7.3: ordinary graphs

func TestExampleOfTheChapter(t *testing.T) {
	g := rowsOf(row(1, 2), row(3), row(3), row(0))
	tells(t, g, told{
		idom:     row(-1, 0, 0, 0),
		depth:    row(0, 1, 1, 1),
		kids:     rowsOf(row(1, 2, 3), nil, nil, nil),
		frontier: rowsOf(row(0), row(3), row(3), row(0)),
	})
	dominated(t, g, 0, 0, 1, 2, 3)
	dominated(t, g, 1, 1)
	dominated(t, g, 3, 3)
	iterates(t, g, row(1), 0, 3)
	iterates(t, g, row(0), 0)
	iterates(t, g, row(3), 0)
	iterates(t, g, row(1, 2, 3), 0, 3)
}

func TestOneBlock(t *testing.T) {
	for _, g := range [][][]int{rowsOf(nil), rowsOf(row())} {
		tells(t, g, told{idom: row(-1), depth: row(0), kids: rowsOf(nil), frontier: rowsOf(nil)})
		dominated(t, g, 0, 0)
		iterates(t, g, nil)
		iterates(t, g, row(0))
	}
}

func TestRowOfBlocks(t *testing.T) {
	g := rowsOf(row(1), row(2), row(3), nil)
	tells(t, g, told{
		idom:     row(-1, 0, 1, 2),
		depth:    row(0, 1, 2, 3),
		kids:     rowsOf(row(1), row(2), row(3), nil),
		frontier: make([][]int, 4),
	})
	dominated(t, g, 0, 0, 1, 2, 3)
	dominated(t, g, 2, 2, 3)
	iterates(t, g, row(0, 1, 2, 3))
}

func TestRowOfBlocksWhoseNumbersFall(t *testing.T) {
	g := rowsOf(row(3), nil, row(1), row(2))
	tells(t, g, told{
		idom:     row(-1, 2, 3, 0),
		depth:    row(0, 3, 2, 1),
		kids:     rowsOf(row(3), nil, row(1), row(2)),
		frontier: make([][]int, 4),
	})
	dominated(t, g, 3, 1, 2, 3)
	dominated(t, g, 1, 1)
}

func TestBranchThatJoinsAgain(t *testing.T) {
	for _, behind := range rowsOf(row(1, 2), row(2, 1)) {
		g := rowsOf(behind, row(3), row(3), row(4), nil)
		tells(t, g, told{
			idom:     row(-1, 0, 0, 0, 3),
			depth:    row(0, 1, 1, 1, 2),
			kids:     rowsOf(row(1, 2, 3), nil, nil, row(4), nil),
			frontier: rowsOf(nil, row(3), row(3), nil, nil),
		})
		dominated(t, g, 3, 3, 4)
		dominated(t, g, 2, 2)
		iterates(t, g, row(1), 3)
		iterates(t, g, row(3, 4, 0))
	}
}

func TestBranchWithOneSide(t *testing.T) {
	g := rowsOf(row(1), row(2, 3), row(3), nil)
	tells(t, g, told{
		idom:     row(-1, 0, 1, 1),
		depth:    row(0, 1, 2, 2),
		kids:     rowsOf(row(1), row(2, 3), nil, nil),
		frontier: rowsOf(nil, nil, row(3), nil),
	})
	dominated(t, g, 1, 1, 2, 3)
}

// TestBranchInABranch: only the outer join is in the frontier of all that stands in a side.
func TestBranchInABranch(t *testing.T) {
	g := rowsOf(row(1, 5), row(2, 3), row(4), row(4), row(6), row(6), nil)
	tells(t, g, told{
		idom:     row(-1, 0, 1, 1, 1, 0, 0),
		depth:    row(0, 1, 2, 2, 2, 1, 1),
		kids:     rowsOf(row(1, 5, 6), row(2, 3, 4), nil, nil, nil, nil, nil),
		frontier: rowsOf(nil, row(6), row(4), row(4), row(6), row(6), nil),
	})
	iterates(t, g, row(2), 4, 6)
	iterates(t, g, row(5), 6)
	iterates(t, g, row(6))
}

func TestBranchOfEight(t *testing.T) {
	g := rowsOf(row(8, 1, 7, 2, 6, 3, 5, 4), nil, nil, nil, nil, nil, nil, nil, nil)
	tells(t, g, told{
		idom:     row(-1, 0, 0, 0, 0, 0, 0, 0, 0),
		depth:    row(0, 1, 1, 1, 1, 1, 1, 1, 1),
		kids:     append(rowsOf(row(1, 2, 3, 4, 5, 6, 7, 8)), make([][]int, 8)...),
		frontier: make([][]int, 9),
	})
}

func TestLoop(t *testing.T) {
	g := rowsOf(row(1), row(2, 3), row(1), nil)
	tells(t, g, told{
		idom:     row(-1, 0, 1, 1),
		depth:    row(0, 1, 2, 2),
		kids:     rowsOf(row(1), row(2, 3), nil, nil),
		frontier: rowsOf(nil, row(1), row(1), nil), // its head is in its own
	})
	iterates(t, g, row(2), 1)
	iterates(t, g, row(1), 1)
	iterates(t, g, row(3))
}

func TestLoopInALoop(t *testing.T) {
	g := rowsOf(row(1), row(2, 5), row(3, 4), row(2), row(1), nil)
	tells(t, g, told{
		idom:     row(-1, 0, 1, 2, 2, 1),
		depth:    row(0, 1, 2, 3, 3, 2),
		kids:     rowsOf(row(1), row(2, 5), row(3, 4), nil, nil, nil),
		frontier: rowsOf(nil, row(1), row(1, 2), row(2), row(1), nil),
	})
	dominated(t, g, 2, 2, 3, 4)
	iterates(t, g, row(3), 1, 2)
	iterates(t, g, row(4), 1)
	iterates(t, g, row(5))
}

func TestLoopThatIsEnteredAtTwoBlocks(t *testing.T) {
	g := rowsOf(row(1, 2), row(2), row(1, 3), nil)
	tells(t, g, told{
		idom:     row(-1, 0, 0, 2),
		depth:    row(0, 1, 1, 2),
		kids:     rowsOf(row(1, 2), nil, row(3), nil),
		frontier: rowsOf(nil, row(2), row(1), nil),
	})
	dominated(t, g, 1, 1)
	dominated(t, g, 2, 2, 3)
	iterates(t, g, row(1), 1, 2)
	iterates(t, g, row(3))
}

// TestWhatAnEdgeBackTakesAway: that 3 and 2 need not pass 4 is seen only from edges that lead back in the order of the walk.
func TestWhatAnEdgeBackTakesAway(t *testing.T) {
	g := rowsOf(row(4, 1), row(2), row(3, 1), row(4, 2), row(3))
	tells(t, g, told{
		idom:     row(-1, 0, 0, 0, 0),
		depth:    row(0, 1, 1, 1, 1),
		kids:     rowsOf(row(1, 2, 3, 4), nil, nil, nil, nil),
		frontier: rowsOf(nil, row(2), row(1, 3), row(2, 4), row(3)),
	})
	iterates(t, g, row(1), 1, 2, 3, 4)
}

func TestEntryWithAnEdgeToItself(t *testing.T) {
	g := rowsOf(row(0))
	tells(t, g, told{idom: row(-1), depth: row(0), kids: rowsOf(nil), frontier: rowsOf(row(0))})
	iterates(t, g, row(0), 0)
	g = rowsOf(row(0, 1), nil)
	tells(t, g, told{idom: row(-1, 0), depth: row(0, 1), kids: rowsOf(row(1), nil), frontier: rowsOf(row(0), nil)})
	iterates(t, g, row(1))
}

func TestEdgesBackToTheEntry(t *testing.T) {
	g := rowsOf(row(1), row(2), row(0))
	tells(t, g, told{
		idom:     row(-1, 0, 1),
		depth:    row(0, 1, 2),
		kids:     rowsOf(row(1), row(2), nil),
		frontier: rowsOf(row(0), row(0), row(0)),
	})
	iterates(t, g, row(2), 0)
	g = rowsOf(row(1, 2, 0), row(0), row(0, 3), nil)
	tells(t, g, told{
		idom:     row(-1, 0, 0, 2),
		depth:    row(0, 1, 1, 2),
		kids:     rowsOf(row(1, 2), nil, row(3), nil),
		frontier: rowsOf(row(0), row(0), row(0), nil),
	})
}

func TestEdgeFromABlockToItself(t *testing.T) {
	g := rowsOf(row(1), row(1, 2), row(2))
	tells(t, g, told{
		idom:     row(-1, 0, 1),
		depth:    row(0, 1, 2),
		kids:     rowsOf(row(1), row(2), nil),
		frontier: rowsOf(nil, row(1), row(2)),
	})
	iterates(t, g, row(1, 2), 1, 2)
	iterates(t, g, row(0))
}

func TestTheSameEdgeTwice(t *testing.T) {
	g := rowsOf(row(1, 1), row(2, 3, 2), row(3, 3, 3), row(1, 1))
	tells(t, g, told{
		idom:     row(-1, 0, 1, 1),
		depth:    row(0, 1, 2, 2),
		kids:     rowsOf(row(1), row(2, 3), nil, nil),
		frontier: rowsOf(nil, row(1), row(3), row(1)),
	})
	iterates(t, g, row(2), 1, 3)
}

// TestBlocksThatAreNotReached have edges to reached ones, which count for nothing.
func TestBlocksThatAreNotReached(t *testing.T) {
	g := rowsOf(row(1), row(3), row(3, 1, 4, 2), nil, row(2, 0, 1), row(5))
	tells(t, g, told{
		idom:     row(-1, 0, -1, 1, -1, -1),
		depth:    row(0, 1, -1, 2, -1, -1),
		kids:     rowsOf(row(1), row(3), nil, nil, nil, nil),
		frontier: make([][]int, 6),
	})
	dominated(t, g, 0, 0, 1, 3)
	for _, a := range row(2, 4, 5) {
		dominated(t, g, a)
	}
	iterates(t, g, row(0, 1, 2, 3, 4, 5))
	g = rowsOf(row(2), row(2), row(2), row(3, 2))
	iterates(t, g, row(1, 3))
	iterates(t, g, row(1, 2, 3), 2)
}

func TestEntryAlone(t *testing.T) {
	tells(t, rowsOf(nil, row(0, 2), row(1, 0)), told{
		idom: row(-1, -1, -1), depth: row(0, -1, -1), kids: make([][]int, 3), frontier: make([][]int, 3),
	})
}

// P7.2: the named edges

func TestDominatesOfNumbersThatAreNoBlocks(t *testing.T) {
	for _, idom := range rowsOf(nil, row(-1), row(-1, 0, 0, 2), row(-1, -1)) {
		wrong := row(len(idom), len(idom)+1, api.MaxBlocks, api.MaxInt, -1, -2, api.MinInt)
		for _, a := range wrong {
			for _, b := range append(wrong, 0, 1, 2, 3) {
				if Dominates(idom, a, b) || Dominates(idom, b, a) {
					t.Errorf("Dominates(%v, %d, %d) or turned", idom, a, b)
				}
			}
		}
	}
}

func TestDominatesOfABlockAndItself(t *testing.T) {
	idom := row(-1, 0, -1, 1, 1)
	for b, want := range []bool{true, true, false, true, true} {
		if Dominates(idom, b, b) != want {
			t.Errorf("Dominates(%v, %d, %d): %v", idom, b, b, !want)
		}
	}
}

func TestDominatesOfBlocksThatAreNotReached(t *testing.T) {
	idom := row(-1, 0, -1, 1, -1)
	for b := range idom {
		for _, no := range row(2, 4) {
			if Dominates(idom, no, b) || Dominates(idom, b, no) {
				t.Errorf("Dominates(%v, %d, %d) or turned", idom, no, b)
			}
		}
	}
}

func TestDominatesLooksUpAlone(t *testing.T) {
	idom := row(-1, 0, 1, 2, 1)
	for _, c := range []struct {
		a, b int
		want bool
	}{
		{0, 3, true}, {1, 3, true}, {2, 3, true}, {3, 2, false}, {3, 0, false}, {1, 0, false},
		{4, 3, false}, {3, 4, false}, {2, 4, false}, {1, 4, true}, {0, 1, true},
	} {
		if got := Dominates(idom, c.a, c.b); got != c.want {
			t.Errorf("Dominates(%v, %d, %d): %v", idom, c.a, c.b, got)
		}
	}
}

func TestKidsRise(t *testing.T) {
	idom := row(-1, 4, 0, 4, 0, -1, 4, 2, 4)
	want := rowsOf(row(2, 4), nil, row(7), nil, row(1, 3, 6, 8), nil, nil, nil, nil)
	if got := Kids(idom); !rowsEqual(got, want) {
		t.Errorf("Kids(%v): %v; want %v", idom, got, want)
	}
	if got := Depth(idom); !slices.Equal(got, row(0, 2, 1, 2, 1, -1, 2, 2, 2)) {
		t.Errorf("Depth(%v): %v", idom, got)
	}
}

func TestRowOfNoBlocks(t *testing.T) {
	for _, idom := range rowsOf(nil, row(), row(-1, 0)[:0]) {
		if Dominates(idom, 0, 0) || len(Kids(idom)) != 0 || len(Depth(idom)) != 0 {
			t.Error("something is told of no blocks")
		}
	}
}

// P7.3: the named edges of Iterated

func TestIteratedOfNone(t *testing.T) {
	g := rowsOf(row(1, 2), row(3), row(3), row(0), row(3))
	iterates(t, g, nil)
	iterates(t, g, row())
	iterates(t, g, row(1, 2)[:0])
}

func TestIteratedOfNumbersThatAreNoBlocks(t *testing.T) {
	g := rowsOf(row(1, 2), row(3), row(3), row(3))
	for _, no := range row(4, 5, api.MaxBlocks, api.MaxInt, -1, -4, api.MinInt, 1<<32, 1<<32+1) {
		iterates(t, g, row(no))
		iterates(t, g, row(no, no))
		iterates(t, g, row(no, 1), 3)
		iterates(t, g, row(1, no), 3)
	}
}

func TestIteratedOfBlocksThatAreNotReached(t *testing.T) {
	g := rowsOf(row(1, 2), row(3), row(3), nil, row(3, 4), row(4, 5, 0))
	iterates(t, g, row(4))
	iterates(t, g, row(4, 5, 4))
	iterates(t, g, row(4, 2, 5), 3)
}

func TestIteratedOfABlockTwice(t *testing.T) {
	g := rowsOf(row(1, 2), row(3), row(3), row(0))
	iterates(t, g, row(1, 1), 0, 3)
	iterates(t, g, row(3, 1, 3, 1, 3), 0, 3)
	iterates(t, g, slices.Repeat(row(2), 100000), 0, 3)
}

// TestIteratedGoesOn has joins in the frontiers of joins, with falling numbers.
func TestIteratedGoesOn(t *testing.T) {
	g := rowsOf(row(5, 4, 3, 2, 1), nil, row(1), row(2), row(3), row(4))
	iterates(t, g, row(5), 1, 2, 3, 4)
	iterates(t, g, row(3), 1, 2)
	iterates(t, g, row(2), 1)
	iterates(t, g, row(1, 0))
}

// Graphs that are not right

// nothing fails the test if a call tells something of g.
func nothing(t *testing.T, what string, g [][]int) {
	t.Helper()
	if got := Idom(g); len(got) != 0 {
		t.Errorf("Idom of %s: %d blocks", what, len(got))
	}
	if got := Frontier(g); len(got) != 0 {
		t.Errorf("Frontier of %s: %d blocks", what, len(got))
	}
	for _, at := range rowsOf(nil, row(0), row(0, 1, 2), row(len(g)-1), row(len(g)), row(-1)) {
		if got := Iterated(g, at); len(got) != 0 {
			t.Errorf("Iterated of %s: %v", what, got)
		}
	}
}

func TestNoBlocks(t *testing.T) {
	nothing(t, "nil", nil)
	nothing(t, "no blocks", [][]int{})
	nothing(t, "no blocks with spare room", rowsOf(row(0), row(0))[:0])
}

// ring is a graph of n blocks, each with the next one and the first one behind it twice.
func ring(n int) [][]int {
	g := make([][]int, n)
	for i := range g {
		g[i] = row((i+1)%n, 0, 0)
	}
	return g
}

func TestOneBlockTooMany(t *testing.T) {
	if len(Idom(ring(api.MaxBlocks))) != api.MaxBlocks || len(Frontier(ring(api.MaxBlocks))) != api.MaxBlocks {
		t.Error("nothing is told of MaxBlocks blocks")
	}
	iterates(t, ring(api.MaxBlocks), row(api.MaxBlocks-1), 0)
	nothing(t, "one block too many", ring(api.MaxBlocks+1))
	nothing(t, "one block without edges too many", make([][]int, api.MaxBlocks+1))
	nothing(t, "many blocks too many", ring(3*api.MaxBlocks))
}

func TestTooManyBehindABlock(t *testing.T) {
	for _, blocks := range row(1, 2, 5) {
		for at := range blocks {
			g := ring(blocks)
			g[at] = make([]int, 8)
			if len(Idom(g)) != blocks || len(Frontier(g)) != blocks || !slices.Equal(Iterated(g, row(0)), row(0)) {
				t.Errorf("something else is told of 8 behind block %d", at)
			}
			for _, many := range row(9, 10, 1000) {
				g[at] = make([]int, many)
				nothing(t, "too many behind a block", g)
			}
		}
	}
}

func TestNoBlockBehindABlock(t *testing.T) {
	for _, blocks := range row(1, 2, 5) {
		for _, wrong := range row(blocks, blocks+1, api.MaxBlocks, api.MaxInt, -1, -2, api.MinInt, 1<<32, -1<<32) {
			for at := range blocks {
				g := ring(blocks)
				g[at] = row(wrong)
				nothing(t, "a number that is no block", g)
				for i := range 8 {
					g[at] = make([]int, 8)
					g[at][i] = wrong
					nothing(t, "a number that is no block beside blocks", g)
				}
			}
		}
	}
}

func TestWrongWhereOneDoesNotCome(t *testing.T) {
	nothing(t, "no block behind one that is not reached", rowsOf(row(0), row(2)))
	nothing(t, "too many behind one that is not reached", rowsOf(row(0), make([]int, 9)))
}

// P7.2: rows that Idom does not tell

// something fails the test if the calls of a row do not tell of each of its blocks.
func something(t *testing.T, idom []int) {
	t.Helper()
	before := slices.Clone(idom)
	if got := len(Kids(idom)); got != len(idom) {
		t.Errorf("Kids(%v): %d blocks", idom, got)
	}
	if got := len(Depth(idom)); got != len(idom) {
		t.Errorf("Depth(%v): %d blocks", idom, got)
	}
	for a := -2; a < len(idom)+2; a++ {
		for b := -2; b < len(idom)+2; b++ {
			within := a >= 0 && a < len(idom) && b >= 0 && b < len(idom)
			if Dominates(idom, a, b) && !within {
				t.Errorf("Dominates(%v, %d, %d)", idom, a, b)
			}
		}
	}
	if !slices.Equal(idom, before) {
		t.Errorf("a row became %v; was %v", idom, before)
	}
}

func TestAllSmallRowsThatIdomDoesNotTell(t *testing.T) {
	rows := 0
	for _, idom := range allRows(-2, 5, 5) {
		something(t, idom)
		rows++
	}
	if want := 1 + 8 + 8*8 + 8*8*8 + 8*8*8*8 + 8*8*8*8*8; rows != want {
		t.Errorf("%d rows; want %d", rows, want)
	}
}

func TestRowsWithNumbersFarOutOfRange(t *testing.T) {
	for _, far := range row(api.MaxInt, api.MinInt, api.MaxInt-1, api.MinInt+1, 1<<32, -1<<32, api.MaxBlocks) {
		for at := range 4 {
			idom := row(-1, 0, 1, 2)
			idom[at] = far
			something(t, idom)
		}
		something(t, row(far))
		something(t, row(far, far, far))
	}
}

// TestLongRows: a row, a circle and one that leads into a circle, each longer than any that Idom tells, are gone through but once.
func TestLongRows(t *testing.T) {
	const n = 1 << 19
	for _, first := range row(-1, n-1, 0, n/2, n, api.MinInt) {
		idom := make([]int, n)
		idom[0] = first
		for i := 1; i < n; i++ {
			idom[i] = i - 1
		}
		if len(Depth(idom)) != n || len(Kids(idom)) != n {
			t.Errorf("a row that begins with %d: not all blocks are told of", first)
		}
		for _, a := range row(0, 1, n/2, n-1) {
			for _, b := range row(0, 1, n/2, n-1) {
				Dominates(idom, a, b)
			}
		}
	}
	idom := slices.Repeat(row(n-1), n) // all ask the last one, which asks itself
	if len(Depth(idom)) != n || len(Kids(idom)) != n || Dominates(idom, n, 0) {
		t.Error("a row of one number")
	}
}

// P7.1 to P7.3: against the chapter's words

// passed answers of each block, which blocks all ways from the entry to it pass, as bits; 0 of one to which there is no way.
// It goes each way that passes no block twice: what such ways must pass, the longer ones pass too.
func passed(g [][]int) []uint64 {
	all := make([]uint64, len(g))
	var walk func(at int, way uint64)
	walk = func(at int, way uint64) {
		way |= 1 << at
		if all[at] == 0 {
			all[at] = way
		}
		all[at] &= way
		for _, next := range g[at] {
			if way&(1<<next) == 0 {
				walk(next, way)
			}
		}
	}
	walk(0, 0)
	return all
}

// needed answers the same as passed, by leaving each block out in turn: for graphs with too many ways.
func needed(g [][]int) []uint64 {
	all := make([]uint64, len(g))
	reached := without(g, -1)
	for a := range g {
		for b, still := range without(g, a) {
			if reached[b] && !still {
				all[b] |= 1 << a
			}
		}
	}
	return all
}

// without tells of each block whether one comes to it from the entry, if there is no block out.
func without(g [][]int, out int) []bool {
	reached := make([]bool, len(g))
	reached[0] = out != 0
	for changed := true; changed; {
		changed = false
		for from, behind := range g {
			for _, to := range behind {
				if reached[from] && to != out && !reached[to] {
					reached[to] = true
					changed = true
				}
			}
		}
	}
	return reached
}

// words is what the chapter's words say of a graph of which all is passed.
type words struct {
	g   [][]int
	all []uint64
}

func (w words) reached(b int) bool      { return w.all[b] != 0 }
func (w words) dominates(a, b int) bool { return w.all[b]&(1<<a) != 0 }

func (w words) idom() []int {
	idom := slices.Repeat(row(-1), len(w.g))
	for b := range w.g {
		for a := range w.g {
			if a == b || !w.dominates(a, b) {
				continue
			}
			nearest := true
			for other := range w.g {
				if other != b && w.dominates(other, b) && !w.dominates(other, a) {
					nearest = false
				}
			}
			if nearest {
				idom[b] = a
			}
		}
	}
	return idom
}

func (w words) kids() [][]int {
	idom := w.idom()
	kids := make([][]int, len(w.g))
	for a := range w.g {
		for b := range w.g {
			if idom[b] == a {
				kids[a] = append(kids[a], b)
			}
		}
	}
	return kids
}

// depth counts the others that dominate: those that one asks for on the way to the entry.
func (w words) depth() []int {
	depth := slices.Repeat(row(-1), len(w.g))
	for b := range w.g {
		for a := range w.g {
			if w.dominates(a, b) {
				depth[b]++
			}
		}
	}
	return depth
}

func (w words) inFrontier(a, b int) bool {
	if !w.reached(a) || !w.reached(b) || w.dominates(a, b) && a != b {
		return false
	}
	for p := range w.g {
		if w.reached(p) && slices.Contains(w.g[p], b) && w.dominates(a, p) {
			return true
		}
	}
	return false
}

func (w words) frontier() [][]int {
	rows := make([][]int, len(w.g))
	for a := range w.g {
		for b := range w.g {
			if w.inFrontier(a, b) {
				rows[a] = append(rows[a], b)
			}
		}
	}
	return rows
}

// iterated adds to what is in frontiers until nothing comes any more.
func iterated(frontier [][]int, at []int) []int {
	var in []int
	for many := -1; many < len(in); {
		many = len(in)
		for _, a := range append(slices.Clone(at), in...) {
			if a < 0 || a >= len(frontier) {
				continue
			}
			for _, b := range frontier[a] {
				if !slices.Contains(in, b) {
					in = append(in, b)
				}
			}
		}
	}
	slices.Sort(in)
	return in
}

// asTheWordsSay holds all calls against the chapter's words.
func asTheWordsSay(t *testing.T, w words, ats [][]int) {
	t.Helper()
	frontier := w.frontier()
	tells(t, w.g, told{idom: w.idom(), depth: w.depth(), kids: w.kids(), frontier: frontier})
	idom := Idom(w.g)
	for a := range w.g {
		for b := range w.g {
			if got := Dominates(idom, a, b); got != w.dominates(a, b) {
				t.Errorf("Dominates(%v, %d, %d): %v", idom, a, b, got)
			}
		}
	}
	for _, at := range ats {
		iterates(t, w.g, at, iterated(frontier, at)...)
	}
	withoutABlock(t, w.g)
	iteratedIsWhole(t, w.g, ats)
	if t.Failed() {
		t.FailNow()
	}
}

// withoutABlock is P7.5.
func withoutABlock(t *testing.T, g [][]int) {
	t.Helper()
	idom := Idom(g)
	reached := without(g, -1)
	for a := range g {
		if !reached[a] {
			continue
		}
		for b, still := range without(g, a) {
			if reached[b] && still == Dominates(idom, a, b) {
				t.Errorf("%v: without block %d block %d is reached: %v, Dominates: %v", g, a, b, still, !still)
			}
		}
	}
}

// iteratedIsWhole is P7.6.
func iteratedIsWhole(t *testing.T, g [][]int, ats [][]int) {
	t.Helper()
	for _, at := range ats {
		once := Iterated(g, at)
		if again := Iterated(g, append(slices.Clone(at), once...)); !slices.Equal(again, once) {
			t.Errorf("Iterated(%v, %v with %v): %v", g, at, once, again)
		}
	}
}

// allRows are the rows of at most that many numbers from low to high.
func allRows(low, high, most int) [][]int {
	rows := rowsOf(nil)
	for done := 0; ; {
		from := done
		done = len(rows)
		if len(rows[from]) == most {
			return rows
		}
		for _, before := range rows[from:done] {
			for n := low; n <= high; n++ {
				rows = append(rows, append(slices.Clone(before), n))
			}
		}
	}
}

// allSets are the rows of rising numbers below n.
func allSets(n int) [][]int {
	var sets [][]int
	for bits := range 1 << n {
		var set []int
		for b := range n {
			if bits&(1<<b) != 0 {
				set = append(set, b)
			}
		}
		sets = append(sets, set)
	}
	return sets
}

// allGraphs hands every graph of that many blocks, with one of rows behind each, to f, and answers how many they are.
func allGraphs(blocks int, rows [][]int, f func(g [][]int)) int {
	graphs := 0
	g := make([][]int, blocks)
	var fill func(at int)
	fill = func(at int) {
		if at == blocks {
			graphs++
			f(g)
			return
		}
		for _, behind := range rows {
			g[at] = behind
			fill(at + 1)
		}
	}
	fill(0)
	return graphs
}

// someAts are rows for Iterated of a graph of n blocks: each block alone, and some with blocks twice and with what is no block.
func someAts(n int) [][]int {
	ats := rowsOf(nil, row(-1, n, 0, n-1, 0), row(n-1, n/2, 1))
	for b := range n {
		ats = append(ats, row(b))
	}
	return ats
}

func TestAllSmallGraphs(t *testing.T) {
	for _, c := range []struct{ blocks, most, graphs int }{
		{1, 8, 9}, {2, 4, 31 * 31}, {3, 3, 40 * 40 * 40}, {4, 2, 21 * 21 * 21 * 21}, {5, 1, 6 * 6 * 6 * 6 * 6},
	} {
		graphs := allGraphs(c.blocks, allRows(0, c.blocks-1, c.most), func(g [][]int) {
			asTheWordsSay(t, words{g, passed(g)}, rowsOf(row(c.blocks-1)))
		})
		if graphs != c.graphs {
			t.Errorf("%d graphs of %d blocks; want %d", graphs, c.blocks, c.graphs)
		}
	}
}

// TestAllSmallGraphsAndAllSetsOfBlocks takes all that one may hand to Iterated, and a number that is no block.
func TestAllSmallGraphsAndAllSetsOfBlocks(t *testing.T) {
	for blocks := 1; blocks <= 3; blocks++ {
		sets := allSets(blocks)
		allGraphs(blocks, sets, func(g [][]int) {
			asTheWordsSay(t, words{g, passed(g)}, allSets(blocks+1))
		})
	}
	graphs := allGraphs(4, allSets(4), func(g [][]int) {
		asTheWordsSay(t, words{g, passed(g)}, someAts(4))
	})
	if graphs != 16*16*16*16 {
		t.Errorf("%d graphs of 4 blocks", graphs)
	}
}

func someGraph(r *rand.Rand, blocks, most int) [][]int {
	g := make([][]int, blocks)
	for i := range g {
		for range r.Intn(most + 1) {
			g[i] = append(g[i], r.Intn(blocks))
		}
	}
	return g
}

func TestManyGraphsByTheirWays(t *testing.T) {
	r := rand.New(rand.NewSource(7))
	for range 20000 {
		g := someGraph(r, 5+r.Intn(4), 1+r.Intn(4))
		asTheWordsSay(t, words{g, passed(g)}, someAts(len(g)))
	}
}

// TestManyGreaterGraphs has rows of blocks with some edges beside them, so that they are deep, and graphs of any edges.
func TestManyGreaterGraphs(t *testing.T) {
	r := rand.New(rand.NewSource(77))
	for i := range 1500 {
		g := someGraph(r, 9+r.Intn(40), 1+r.Intn(4))
		if i%2 == 0 {
			for at := range len(g) - 1 {
				g[at] = append(g[at][:len(g[at])/2], at+1)
			}
		}
		asTheWordsSay(t, words{g, needed(g)}, someAts(len(g)))
	}
}

// TestPassedAndNeeded: the two ways to say what dominates agree.
func TestPassedAndNeeded(t *testing.T) {
	r := rand.New(rand.NewSource(777))
	for range 2000 {
		g := someGraph(r, 1+r.Intn(8), 3)
		if !slices.Equal(passed(g), needed(g)) {
			t.Fatalf("%v: %b; %b", g, passed(g), needed(g))
		}
	}
}

// Graphs as great as may be

func TestDeepRow(t *testing.T) {
	const n = api.MaxBlocks
	g := make([][]int, n)
	want := make([]int, n)
	depth := make([]int, n)
	for i := range n {
		g[i] = row(min(i+1, n-1))
		want[i] = i - 1
		depth[i] = i
	}
	idom := Idom(g)
	if !slices.Equal(idom, want) || !slices.Equal(Depth(idom), depth) {
		t.Error("a row of MaxBlocks blocks")
	}
	if !Dominates(idom, 0, n-1) || !Dominates(idom, n-2, n-1) || Dominates(idom, n-1, n-2) {
		t.Error("Dominates in a row of MaxBlocks blocks")
	}
	iterates(t, g, row(n-1), n-1)
	g[n-1] = row(0) // a ring: the entry is in all frontiers
	for b, in := range Frontier(g) {
		if !slices.Equal(in, row(0)) {
			t.Fatalf("the frontier of block %d: %v", b, in)
		}
	}
	if !slices.Equal(Idom(g), want) {
		t.Error("Idom of a ring of MaxBlocks blocks")
	}
}

// TestGreatFrontiers: the last blocks of a row lead back to the first ones, so that each block has all of these that are not behind it in its frontier.
func TestGreatFrontiers(t *testing.T) {
	const n, heads, last = api.MaxBlocks, api.MaxBlocks / 4, api.MaxBlocks / 16
	g := make([][]int, n)
	for i := range n - 1 {
		g[i] = row(i + 1)
	}
	for to := range heads {
		from := n - last + to%last
		g[from] = append(g[from], to)
	}
	for b, in := range Frontier(g)[:n-last] {
		if want := min(b+1, heads); len(in) != want || in[0] != 0 || in[want-1] != want-1 || !slices.IsSorted(in) {
			t.Fatalf("the frontier of block %d has %d blocks; want %d", b, len(in), want)
		}
	}
	if got := Iterated(g, row(n-last)); len(got) != heads || !slices.IsSorted(got) {
		t.Errorf("Iterated: %d blocks", len(got))
	}
}

// TestLoopsThatAreEnteredTwiceInARow needs one pass more over the edges for each of them.
func TestLoopsThatAreEnteredTwiceInARow(t *testing.T) {
	const n = api.MaxBlocks
	g := make([][]int, n)
	g[0] = row(n-1, 1)
	for i := 1; i < n; i++ {
		g[i] = row(min(i+1, n-1), max(i-1, 1))
	}
	idom := Idom(g)
	for b, a := range idom {
		if a != min(b, 1)-1 {
			t.Fatalf("the idom of block %d: %d", b, a)
		}
	}
	if got := Iterated(g, row(n/2)); len(got) != n-1 {
		t.Errorf("Iterated: %d blocks", len(got))
	}
}

// TestWalksThatAreLeftEarly: who ranges over a walk may leave it anywhere.
func TestWalksThatAreLeftEarly(t *testing.T) {
	idom := row(-1, 0, 1, 2)
	for many := 1; many <= 4; many++ {
		var got []int
		for block := range upward(idom, 3) {
			got = append(got, block)
			if len(got) == many {
				break
			}
		}
		if !slices.Equal(got, row(3, 2, 1, 0)[:many]) {
			t.Errorf("went over %v", got)
		}
	}
	for from, to := range edges(rowsOf(row(1, 2), row(2), nil), row(0, 1, 2)) {
		if from != 0 || to != 1 {
			t.Errorf("edge %d to %d", from, to)
		}
		break
	}
}

// P7.4

const mark = -77

// spacious is a graph whose list and rows have spare room that holds something.
func spacious() [][]int {
	g := rowsOf(
		row(1, 2, 1, mark, mark)[:3], row(3, mark)[:1], row(3, 2, mark)[:2], row(0, 4, 1, mark)[:3],
		make([]int, 3)[:0], row(5, 3, 4, mark)[:3], row(mark), row(mark),
	)
	return g[:6]
}

// deep answers all that rows hold, their spare room too, as new memory.
func deep(rows [][]int) [][]int {
	all := make([][]int, cap(rows))
	for i, r := range rows[:cap(rows)] {
		all[i] = slices.Clone(r[:cap(r)])
	}
	return all
}

// spoil writes over all that a list has room for.
func spoil[T any](l []T, with T) {
	l = l[:cap(l)]
	for i := range l {
		l[i] = with
	}
}

func spoilRows(rows [][]int) {
	for _, r := range rows[:cap(rows)] {
		spoil(r, mark)
	}
	spoil(rows, nil)
}

// ask answers all lists that the calls answer.
func ask(g [][]int, at, idom []int) [][][]int {
	return [][][]int{rowsOf(Idom(g)), Frontier(g), rowsOf(Iterated(g, at)), Kids(idom), rowsOf(Depth(idom))}
}

func spaciousAt() []int   { return row(1, 5, 1, -1, mark, mark)[:4] }
func spaciousIdom() []int { return row(-1, 0, 0, 0, 3, -1, mark, mark)[:6] }

// ofSpacious is written out: it shares no memory with what is handed in.
func ofSpacious() [][][]int {
	return [][][]int{
		rowsOf(row(-1, 0, 0, 0, 3, -1)),
		rowsOf(row(0), row(3), row(2, 3), row(0, 1), nil, nil),
		rowsOf(row(0, 1, 3)),
		rowsOf(row(1, 2, 3), nil, nil, row(4), nil, nil),
		rowsOf(row(0, 1, 1, 1, 2, -1)),
	}
}

func allEqual(a, b [][][]int) bool { return slices.EqualFunc(a, b, rowsEqual) }

func TestWhatIsHandedInIsNotChanged(t *testing.T) {
	for _, wrong := range []bool{false, true} { // not of a graph that is not right, either
		g, at, idom := spacious(), spaciousAt(), spaciousIdom()
		if wrong {
			g[4] = append(g[4], 6)
			idom[4], idom[0] = 6, 3
		}
		before := append(deep(g), deep(rowsOf(at, idom))...)
		calls := []struct {
			name string
			call func()
		}{
			{"Idom", func() { Idom(g) }},
			{"Dominates", func() { Dominates(idom, 1, 4) }},
			{"Kids", func() { Kids(idom) }},
			{"Depth", func() { Depth(idom) }},
			{"Frontier", func() { Frontier(g) }},
			{"Iterated", func() { Iterated(g, at) }},
		}
		for _, c := range calls {
			c.call()
			if now := append(deep(g), deep(rowsOf(at, idom))...); !rowsEqual(now, before) {
				t.Fatalf("%s changed what it was handed: %v; was %v", c.name, now, before)
			}
		}
	}
}

func TestWhatIsHandedInIsNotKept(t *testing.T) {
	g, at, idom := spacious(), spaciousAt(), spaciousIdom()
	first := ask(g, at, idom)
	if !allEqual(first, ofSpacious()) {
		t.Fatalf("%v; want %v", first, ofSpacious())
	}
	spoilRows(g)
	spoil(at, mark)
	spoil(idom, mark)
	if !allEqual(first, ofSpacious()) {
		t.Errorf("the answers changed with what was handed in: %v", first)
	}
	if got := ask(rowsOf(nil, row(0)), row(0), row(-1)); !allEqual(got, [][][]int{rowsOf(row(-1, -1)), make([][]int, 2), rowsOf(nil), rowsOf(nil), rowsOf(row(0))}) {
		t.Errorf("another graph's answers: %v", got)
	}
	if again := ask(spacious(), spaciousAt(), spaciousIdom()); !allEqual(again, ofSpacious()) {
		t.Errorf("the same, asked later: %v", again)
	}
}

func TestWhatIsAnsweredIsNew(t *testing.T) {
	g, at, idom := spacious(), spaciousAt(), spaciousIdom()
	before := append(deep(g), deep(rowsOf(at, idom))...)
	first, second := ask(g, at, idom), ask(g, at, idom)
	for _, rows := range first {
		spoilRows(rows)
	}
	if now := append(deep(g), deep(rowsOf(at, idom))...); !rowsEqual(now, before) {
		t.Errorf("what was handed in changed with the answers: %v; was %v", now, before)
	}
	if !allEqual(second, ofSpacious()) {
		t.Errorf("answers changed with those of the call before: %v", second)
	}
	if third := ask(g, at, idom); !allEqual(third, ofSpacious()) {
		t.Errorf("answers changed with those of a call before: %v", third)
	}
}

// apart fails the test if two rows of one answer share memory, their spare room included.
func apart(t *testing.T, name string, rows [][]int) {
	t.Helper()
	for i, r := range rows {
		before := deep(rows)
		spoil(r, mark-1-i)
		for j, now := range deep(rows) {
			if j != i && !slices.Equal(now, before[j]) {
				t.Errorf("%s: the rows %d and %d share memory", name, i, j)
			}
		}
	}
}

func TestRowsOfAnAnswerShareNoMemory(t *testing.T) {
	for _, g := range [][][]int{spacious(), ring(40), rowsOf(row(0, 1), row(0, 1)), rowsOf(row(1, 2, 3), row(3, 0), row(1, 3), row(0, 1, 2))} {
		apart(t, "Frontier", Frontier(g))
		apart(t, "Kids", Kids(Idom(g)))
	}
	apart(t, "Kids", Kids(row(-1, 0, 0, 0, 1, 1, 1, 2, 2, 3, 3, 3, 3, 3)))
}

func TestArgumentsThatShareMemory(t *testing.T) {
	shared := row(1, 2, 0)
	g := rowsOf(shared, shared, shared[:2])
	asTheWordsSay(t, words{g, passed(g)}, rowsOf(shared, shared[:1]))
	for _, rows := range ask(g, shared, shared) {
		spoilRows(rows)
	}
	if !slices.Equal(shared, row(1, 2, 0)) {
		t.Errorf("the row became %v", shared)
	}
}
