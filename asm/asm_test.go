package asm

import (
	"slices"
	"strconv"
	"strings"
	"testing"

	"swage/api"
	"swage/inst"
	"swage/machine"
)

// jumping are the instructions that jump.
var jumping = []int{api.IJmp, api.IJz, api.ICall}

// numbers are the edges of 32 and of 64 bits, of Imm among them, and what lies beside them.
var numbers = []int{
	api.MinInt, api.MinInt + 1, api.MinInt + 1<<31, api.MinInt + 1<<32 - 1, api.MinInt + 1<<32, -1<<53 - 1,
	-1<<33 - 1, -1 << 33, -1<<33 + 1, -1<<32 - 1<<31 - 1, -1<<32 - 1<<31, -1<<32 - 1, -1 << 32, -1<<32 + 1,
	api.MinImm - 2, api.MinImm - 1, api.MinImm, api.MinImm + 1, -65537, -65536, -2, -1, 0, 1, 2, 255, 65535, 65536,
	api.MaxImm - 1, api.MaxImm, api.MaxImm + 1, api.MaxImm + 2, 1<<32 - 2, 1<<32 - 1, 1 << 32, 1<<32 + 1,
	1<<32 + 1<<31 - 1, 1<<32 + 1<<31, 1<<33 - 1, 1 << 33, 1<<33 + 1, 1<<53 + 1, 1<<62 - 1, 1 << 62,
	api.MaxInt - 1<<32, api.MaxInt - 1<<31, api.MaxInt - 1, api.MaxInt,
}

func linesOf(l ...api.Line) []api.Line { return l }

func halt(imm int) api.Inst { return api.Inst{Op: api.IHalt, Imm: imm} }
func out(a int) api.Inst    { return api.Inst{Op: api.IOut, A: a} }
func in(a int) api.Inst     { return api.Inst{Op: api.IIn, A: a} }
func ret() api.Inst         { return api.Inst{Op: api.IRet} }
func addi(a, b, imm int) api.Inst {
	return api.Inst{Op: api.IAddi, A: a, B: b, Imm: imm}
}

// jumpTo is a jump as code has it, to a place.
func jumpTo(op, a, place int) api.Inst { return api.Inst{Op: op, A: a, Imm: place} }

// comesTo fails the test if the lines do not come to just that code and those labels.
func comesTo(t *testing.T, l []api.Line, code []api.Inst, places [][2]int) {
	t.Helper()
	if got, err := Assemble(l); err != api.OK || !slices.Equal(got, code) {
		t.Errorf("Assemble(%+v): %+v, error %d; want %+v", l, got, err, code)
	}
	if got, err := Places(l); err != api.OK || !slices.Equal(got, places) {
		t.Errorf("Places(%+v): %v, error %d; want %v", l, got, err, places)
	}
}

// refused fails the test if the calls do not tell those errors, and nothing beside them.
func refused(t *testing.T, l []api.Line, assemble, places api.Errno) {
	t.Helper()
	shown := l[:min(len(l), 12)]
	if got, err := Assemble(l); err != assemble || len(got) != 0 {
		t.Errorf("Assemble of %d lines %+v: %d instructions, error %d; want error %d", len(l), shown, len(got), err, assemble)
	}
	got, err := Places(l)
	if err != places || err != api.OK && len(got) != 0 {
		t.Errorf("Places of %d lines %+v: %d labels, error %d; want error %d", len(l), shown, len(got), err, places)
	}
}

// P5.1: ordinary lines

func TestJumpAhead(t *testing.T) {
	comesTo(t, linesOf(Jump(api.IJmp, 0, 1), Plain(out(2)), Label(1), Plain(halt(0))),
		[]api.Inst{jumpTo(api.IJmp, 0, 2), out(2), halt(0)}, [][2]int{{1, 2}})
}

func TestJumpBack(t *testing.T) {
	comesTo(t, linesOf(Plain(in(3)), Label(4), Plain(out(3)), Plain(addi(3, 3, -1)), Jump(api.IJz, 3, 4), Plain(halt(0))),
		[]api.Inst{in(3), out(3), addi(3, 3, -1), jumpTo(api.IJz, 3, 1), halt(0)}, [][2]int{{4, 1}})
}

func TestJumpToItself(t *testing.T) {
	comesTo(t, linesOf(Label(1), Jump(api.IJmp, 0, 1)), []api.Inst{jumpTo(api.IJmp, 0, 0)}, [][2]int{{1, 0}})
	comesTo(t, linesOf(Plain(ret()), Label(1), Jump(api.IJmp, 0, 1)), []api.Inst{ret(), jumpTo(api.IJmp, 0, 1)}, [][2]int{{1, 1}})
}

func TestEachInstructionThatJumps(t *testing.T) {
	for _, op := range jumping {
		for _, a := range []int{0, 1, 14, 15} {
			if op != api.IJz && a != 0 {
				continue
			}
			comesTo(t, linesOf(Label(8), Plain(ret()), Jump(op, a, 9), Jump(op, a, 8), Plain(in(1)), Label(9)),
				[]api.Inst{ret(), jumpTo(op, a, 4), jumpTo(op, a, 0), in(1)}, [][2]int{{8, 0}, {9, 4}})
		}
	}
}

func TestSeveralLabelsAtOnePlace(t *testing.T) {
	comesTo(t, linesOf(Jump(api.ICall, 0, 7), Label(5), Label(7), Label(6), Plain(ret()), Jump(api.IJmp, 0, 5), Jump(api.IJz, 2, 6)),
		[]api.Inst{jumpTo(api.ICall, 0, 1), ret(), jumpTo(api.IJmp, 0, 1), jumpTo(api.IJz, 2, 1)},
		[][2]int{{5, 1}, {6, 1}, {7, 1}})
}

func TestLabelsThatDoNotRiseWithTheirPlaces(t *testing.T) {
	comesTo(t, linesOf(
		Label(900), Plain(out(0)), Label(3), Plain(out(1)), Label(api.MaxInt), Plain(out(2)), Label(1), Plain(out(3)), Label(10),
		Jump(api.IJmp, 0, api.MaxInt), Jump(api.IJmp, 0, 1), Jump(api.IJmp, 0, 900), Jump(api.IJmp, 0, 10), Jump(api.IJmp, 0, 3),
	), []api.Inst{
		out(0), out(1), out(2), out(3),
		jumpTo(api.IJmp, 0, 2), jumpTo(api.IJmp, 0, 3), jumpTo(api.IJmp, 0, 0), jumpTo(api.IJmp, 0, 4), jumpTo(api.IJmp, 0, 1),
	}, [][2]int{{1, 3}, {3, 1}, {10, 4}, {900, 0}, {api.MaxInt, 2}})
}

func TestManyLabelsFall(t *testing.T) {
	const many = 300
	var l []api.Line
	var code []api.Inst
	want := make([][2]int, many)
	for i := range many {
		l = append(l, Label(many-i), Jump(api.IJmp, 0, i+1))
		code = append(code, jumpTo(api.IJmp, 0, many-1-i))
		want[many-1-i] = [2]int{many - i, i}
	}
	comesTo(t, l, code, want)
}

func TestJumpsWithoutALabelStay(t *testing.T) {
	for _, imm := range []int{0, 1, 5, api.MaxCode + 1, api.MaxImm} {
		for _, op := range jumping {
			comesTo(t, linesOf(Label(1), Plain(jumpTo(op, 0, imm)), Jump(op, 0, 1)),
				[]api.Inst{jumpTo(op, 0, imm), jumpTo(op, 0, 0)}, [][2]int{{1, 0}})
		}
	}
}

// each are all instructions of the machine, one of each.
func each() []api.Inst {
	return []api.Inst{
		halt(-3), {Op: api.ILi, A: 3, Imm: api.MinImm}, {Op: api.ILih, A: 15, Imm: api.MaxImm}, {Op: api.IMov, A: 1, B: 2},
		{Op: api.IBin, A: 1, B: 2, C: 3, Imm: api.Ne}, {Op: api.ILd, A: 4, B: 14, Imm: 1}, {Op: api.ISt, A: 15, B: 14, Imm: -1},
		jumpTo(api.IJmp, 0, 4), jumpTo(api.IJz, 9, 0), jumpTo(api.ICall, 0, 77), ret(), in(12), out(10),
		{Op: api.IAlloc, A: 1, B: 8}, addi(14, 14, -3),
	}
}

func TestEachInstructionStaysAsItIs(t *testing.T) {
	var l []api.Line
	for _, x := range each() {
		l = append(l, Label(len(l)+1), Plain(x))
	}
	got, err := Assemble(l)
	if err != api.OK || !slices.Equal(got, each()) {
		t.Errorf("Assemble: %+v, error %d", got, err)
	}
}

// P5.1: edges

func TestNoLines(t *testing.T) {
	for _, l := range [][]api.Line{nil, {}} {
		comesTo(t, l, nil, nil)
	}
}

func TestLabelsAlone(t *testing.T) {
	comesTo(t, linesOf(Label(1)), nil, [][2]int{{1, 0}})
	comesTo(t, linesOf(Label(api.MaxInt), Label(2), Label(1)), nil, [][2]int{{1, 0}, {2, 0}, {api.MaxInt, 0}})
}

func TestLabelBehindTheLastInstruction(t *testing.T) {
	comesTo(t, linesOf(Jump(api.IJmp, 0, 2), Plain(ret()), Label(2)),
		[]api.Inst{jumpTo(api.IJmp, 0, 2), ret()}, [][2]int{{2, 2}})
}

// long is that many instructions, the first of which jumps to the label 2 behind them all; with labels, one stands ahead of each 1000th instruction too.
func long(count int, labels bool) []api.Line {
	l := make([]api.Line, 0, count+count/1000+2)
	l = append(l, Jump(api.IJmp, 0, 2))
	for i := 1; i < count; i++ {
		if labels && i%1000 == 0 {
			l = append(l, Label(2+i))
		}
		l = append(l, Plain(addi(1, 2, i)))
	}
	return append(l, Label(2))
}

func TestMaxCodeInstructions(t *testing.T) {
	for _, labels := range []bool{false, true} {
		for _, count := range []int{api.MaxCode - 1, api.MaxCode} {
			l := long(count, labels)
			code, err := Assemble(l)
			if err != api.OK || len(code) != count {
				t.Fatalf("Assemble of %d: %d instructions, error %d", count, len(code), err)
			}
			if code[0] != jumpTo(api.IJmp, 0, count) || code[count-1] != addi(1, 2, count-1) {
				t.Errorf("Assemble of %d: %+v to %+v", count, code[0], code[count-1])
			}
		}
	}
}

func TestMoreThanMaxCodeInstructions(t *testing.T) {
	for _, labels := range []bool{false, true} {
		l := long(api.MaxCode+1, labels)
		refused(t, l, api.ErrFull, api.OK)
		places, err := Places(l) // which has no limit
		if err != api.OK || len(places) == 0 || places[0] != [2]int{2, api.MaxCode + 1} {
			t.Errorf("Places: %d labels, error %d", len(places), err)
		}
	}
}

func TestMoreThanMaxCodeLabels(t *testing.T) {
	l := make([]api.Line, 0, api.MaxCode+3)
	for i := range api.MaxCode + 1 {
		l = append(l, Label(i+1))
	}
	l = append(l, Jump(api.ICall, 0, api.MaxCode+1), Plain(ret()))
	code, err := Assemble(l)
	if err != api.OK || !slices.Equal(code, []api.Inst{jumpTo(api.ICall, 0, 0), ret()}) {
		t.Errorf("Assemble: %+v, error %d", code, err)
	}
	places, err := Places(l)
	if err != api.OK || len(places) != api.MaxCode+1 || places[api.MaxCode] != [2]int{api.MaxCode + 1, 0} {
		t.Errorf("Places: %d labels, error %d", len(places), err)
	}
}

// P5.1: wrong lines

// wrongLines are none that are right, each for one cause.
func wrongLines() []api.Line {
	return []api.Line{
		{Label: -1}, {Label: api.MinInt}, // labels below 0
		{Label: 2, To: 1}, {Label: 2, To: -1}, {Label: 2, To: 2}, // labels with something else
		{Label: 2, Inst: ret()}, {Label: 2, Inst: halt(1)}, {Label: 2, Inst: out(0)},
		{Label: 2, Inst: api.Inst{A: 1}}, {Label: 2, Inst: api.Inst{B: 1}}, {Label: 2, Inst: api.Inst{C: 1}}, {Label: 2, Inst: api.Inst{Imm: -1}},
		{Label: 2, Inst: jumpTo(api.IJmp, 0, 0), To: 1}, {Label: 2, Inst: api.Inst{Op: -1}}, {Label: -1, Inst: ret()}, {Label: -1, To: 1},
		Plain(api.Inst{Op: -1}), Plain(api.Inst{Op: 15}), Plain(out(16)), Plain(out(-1)), Plain(api.Inst{Op: api.IBin}), // instructions that are not right
		Plain(api.Inst{Op: api.IRet, Imm: 1}), Plain(halt(api.MaxImm + 1)), Plain(halt(api.MinImm - 1)), Plain(jumpTo(api.IJmp, 0, -1)),
		Jump(api.IJz, 16, 1), Jump(api.IJz, -1, 1), Jump(api.IJmp, 1, 1), Jump(api.ICall, 15, 1), Jump(15, 0, 1), Jump(-1, 0, 1), Jump(256+api.IJmp, 0, 1),
		{Inst: api.Inst{Op: api.IJmp, B: 1}, To: 1}, {Inst: api.Inst{Op: api.IJz, C: 1}, To: 1},
		Jump(api.IJmp, 0, -1), Jump(api.IJz, 0, -1), Jump(api.ICall, 0, api.MinInt), Jump(api.IRet, 0, -1), // a To below 0
		{Inst: jumpTo(api.IJmp, 0, 1), To: 1}, {Inst: jumpTo(api.IJz, 3, 1), To: 1}, {Inst: jumpTo(api.ICall, 0, api.MaxImm), To: 1}, // a To beside an Imm
		{Inst: jumpTo(api.IJmp, 0, -1), To: 1}, {Inst: jumpTo(api.IJz, 0, 1), To: -1},
	}
}

func TestWrongLines(t *testing.T) {
	around := linesOf(Label(1), Plain(in(1)), Jump(api.IJz, 1, 1), Label(7), Plain(ret()))
	for _, x := range wrongLines() {
		refused(t, linesOf(x), api.ErrArg, api.ErrArg)
		for at := range len(around) + 1 {
			refused(t, slices.Insert(slices.Clone(around), at, x), api.ErrArg, api.ErrArg)
		}
	}
}

func TestToAtAnInstructionThatDoesNotJump(t *testing.T) {
	for _, x := range each() {
		x.Imm = 0
		if slices.Contains(jumping, x.Op) {
			continue
		}
		if x.Op == api.IBin {
			x.Imm = api.Add
		}
		if !inst.Right(x) {
			t.Fatalf("%+v is not right of itself", x)
		}
		refused(t, linesOf(Label(1), api.Line{Inst: x, To: 1}), api.ErrArg, api.ErrArg)
	}
	refused(t, linesOf(Label(1), api.Line{To: 1}), api.ErrArg, api.ErrArg) // all else 0: a halt with a To
}

func TestLabelThatStandsTwice(t *testing.T) {
	for _, n := range []int{1, 2, api.MaxInt} {
		for _, l := range [][]api.Line{
			linesOf(Label(n), Label(n)), // also at one place
			linesOf(Label(n), Plain(ret()), Label(n)),
			linesOf(Label(5), Label(n), Plain(ret()), Label(6), Plain(ret()), Label(n), Label(7)),
			linesOf(Label(n), Label(n), Label(n)),
			linesOf(Jump(api.IJmp, 0, n), Label(n), Plain(ret()), Label(n)),
		} {
			refused(t, l, api.ErrTwice, api.ErrTwice)
		}
	}
}

func TestToThatIsNoLabel(t *testing.T) {
	for _, op := range jumping {
		for _, l := range [][]api.Line{
			linesOf(Jump(op, 0, 1)),
			linesOf(Jump(op, 0, api.MaxInt)),
			linesOf(Label(1), Jump(op, 0, 2), Label(3)),
			linesOf(Label(2), Jump(op, 0, 2), Label(3), Plain(ret()), Jump(op, 0, 1)),
			linesOf(Plain(ret()), Plain(ret()), Jump(op, 0, 2), Label(1)), // a place is no label
		} {
			refused(t, l, api.ErrNone, api.OK)
		}
	}
}

// TestWhichErrorIsTold lays two and more faults into a row, in each order.
func TestWhichErrorIsTold(t *testing.T) {
	wrong := Plain(api.Inst{Op: -1})
	none := Jump(api.IJmp, 0, 9)
	for _, c := range []struct {
		l                []api.Line
		assemble, places api.Errno
	}{
		{linesOf(wrong, Label(1), Label(1)), api.ErrArg, api.ErrArg},
		{linesOf(Label(1), wrong, Label(1)), api.ErrArg, api.ErrArg},
		{linesOf(Label(1), Label(1), wrong), api.ErrArg, api.ErrArg},
		{linesOf(Label(1), api.Line{Label: 1, To: 1}), api.ErrArg, api.ErrArg},
		{linesOf(Label(-1), Label(-1)), api.ErrArg, api.ErrArg},
		{linesOf(none, wrong), api.ErrArg, api.ErrArg},
		{linesOf(wrong, none), api.ErrArg, api.ErrArg},
		{linesOf(api.Line{Inst: jumpTo(api.IJmp, 0, 1), To: 9}), api.ErrArg, api.ErrArg},
		{linesOf(none, Label(1), Label(1)), api.ErrTwice, api.ErrTwice},
		{linesOf(Label(1), none, Label(1)), api.ErrTwice, api.ErrTwice},
		{linesOf(Label(1), Label(1), none), api.ErrTwice, api.ErrTwice},
		{linesOf(none, Label(1), Label(1), wrong), api.ErrArg, api.ErrArg},
		{linesOf(Label(1), Label(1), none, Jump(api.IOut, 0, 1)), api.ErrArg, api.ErrArg},
	} {
		refused(t, c.l, c.assemble, c.places)
	}
}

func TestWhichErrorIsToldOfTooMuch(t *testing.T) {
	full := long(api.MaxCode+1, false)
	for _, c := range []struct {
		x                api.Line
		assemble, places api.Errno
	}{
		{Plain(out(16)), api.ErrArg, api.ErrArg},
		{Label(2), api.ErrTwice, api.ErrTwice},
		{Jump(api.IJmp, 0, 9), api.ErrNone, api.OK},
		{Label(9), api.ErrFull, api.OK},
		{Plain(ret()), api.ErrFull, api.OK},
	} {
		refused(t, append(full[:len(full):len(full)], c.x), c.assemble, c.places)
		refused(t, append(linesOf(c.x), full...), c.assemble, c.places)
	}
}

// P5.1: against the chapter's words

func wordsRight(x api.Line) bool {
	if x.Label >= 1 && x.Inst == (api.Inst{}) && x.To == 0 {
		return true
	}
	if x.Label != 0 || !inst.Right(x.Inst) {
		return false
	}
	return x.To == 0 || slices.Contains(jumping, x.Inst.Op) && x.To >= 1 && x.Inst.Imm == 0
}

// wordsPlace counts the instructions ahead of the label; -1, if there is no such label.
func wordsPlace(l []api.Line, label int) int {
	count := 0
	for _, x := range l {
		if x.Label == label {
			return count
		}
		if x.Label == 0 {
			count++
		}
	}
	return -1
}

func wordsPlaces(l []api.Line) ([][2]int, api.Errno) {
	if slices.ContainsFunc(l, func(x api.Line) bool { return !wordsRight(x) }) {
		return nil, api.ErrArg
	}
	var places [][2]int
	for i, x := range l {
		if x.Label == 0 {
			continue
		}
		if wordsPlace(l[i+1:], x.Label) >= 0 {
			return nil, api.ErrTwice
		}
		places = append(places, [2]int{x.Label, wordsPlace(l, x.Label)})
	}
	slices.SortFunc(places, func(p, q [2]int) int { return p[0] - q[0] })
	return places, api.OK
}

func wordsAssemble(l []api.Line) ([]api.Inst, api.Errno) {
	if _, err := wordsPlaces(l); err != api.OK {
		return nil, err
	}
	var code []api.Inst
	for _, x := range l {
		if x.Label != 0 {
			continue
		}
		if x.To != 0 {
			x.Inst.Imm = wordsPlace(l, x.To)
		}
		if x.Inst.Imm < 0 {
			return nil, api.ErrNone
		}
		code = append(code, x.Inst)
	}
	return code, api.OK
}

// rows hands every row of at most that many of the lines to f.
func rows(pool []api.Line, most int, f func(l []api.Line)) {
	var grow func(l []api.Line)
	grow = func(l []api.Line) {
		f(l)
		if len(l) == most {
			return
		}
		for _, x := range pool {
			grow(append(l[:len(l):len(l)], x))
		}
	}
	grow(nil)
}

func TestAllShortRows(t *testing.T) {
	pool := linesOf(
		Label(1), Label(2), Label(30), Plain(ret()), Plain(jumpTo(api.IJmp, 0, 3)), Jump(api.IJmp, 0, 1), Jump(api.IJz, 5, 2), Jump(api.ICall, 0, 30),
		Label(-1), Plain(out(16)), Jump(api.IOut, 0, 1), // not right
	)
	rows(pool, 5, func(l []api.Line) {
		code, err := Assemble(l)
		wantCode, wantErr := wordsAssemble(l)
		if err != wantErr || !slices.Equal(code, wantCode) {
			t.Fatalf("Assemble(%+v): %+v, error %d; want %+v, error %d", l, code, err, wantCode, wantErr)
		}
		places, err := Places(l)
		wantPlaces, wantErr := wordsPlaces(l)
		if err != wantErr || !slices.Equal(places, wantPlaces) {
			t.Fatalf("Places(%+v): %v, error %d; want %v, error %d", l, places, err, wantPlaces, wantErr)
		}
	})
}

func TestAllShapesOfALine(t *testing.T) {
	for _, label := range []int{api.MinInt, -1, 0, 1, 2, api.MaxInt} {
		for _, to := range []int{api.MinInt, -1, 0, 1, 2, api.MaxInt} {
			for op := -1; op <= 15; op++ {
				for _, a := range []int{-1, 0, 15, 16} {
					for _, imm := range []int{api.MinImm, -1, 0, 1, 14, api.MaxImm + 1} {
						oneLine(t, api.Line{Label: label, Inst: api.Inst{Op: op, A: a, Imm: imm}, To: to})
					}
				}
			}
		}
	}
}

// oneLine asks whether x is right, alone in a row.
func oneLine(t *testing.T, x api.Line) {
	t.Helper()
	_, err := Places(linesOf(x))
	if want := wordsRight(x); want != (err == api.OK) || !want && err != api.ErrArg {
		t.Fatalf("Places of %+v: error %d", x, err)
	}
}

// P5.2

func TestLabelPlainJump(t *testing.T) {
	for _, n := range numbers {
		if got := Label(n); got != (api.Line{Label: n}) {
			t.Errorf("Label(%d): %+v", n, got)
		}
		x := api.Inst{Op: n, A: n / 2, B: n / 3, C: n / 5, Imm: n / 7}
		if got := Plain(x); got != (api.Line{Inst: x}) {
			t.Errorf("Plain(%+v): %+v", x, got)
		}
		for _, op := range numbers {
			want := api.Line{Inst: api.Inst{Op: op, A: n}, To: n / 2}
			if got := Jump(op, n, n/2); got != want {
				t.Errorf("Jump(%d, %d, %d): %+v", op, n, n/2, got)
			}
		}
	}
	for _, x := range each() {
		if got := Plain(x); got != (api.Line{Inst: x}) {
			t.Errorf("Plain(%+v): %+v", x, got)
		}
	}
}

// P5.3

func li(a, imm int) api.Inst  { return api.Inst{Op: api.ILi, A: a, Imm: imm} }
func lih(a, imm int) api.Inst { return api.Inst{Op: api.ILih, A: a, Imm: imm} }

func TestConstKnown(t *testing.T) {
	for _, c := range []struct {
		n    int
		want []api.Inst
	}{
		{0, []api.Inst{li(3, 0)}},
		{5, []api.Inst{li(3, 5)}},
		{-1, []api.Inst{li(3, -1)}},
		{api.MinImm, []api.Inst{li(3, -2147483648)}},
		{api.MaxImm, []api.Inst{li(3, 2147483647)}},
		{api.MinImm - 1, []api.Inst{li(3, -1), lih(3, 2147483647)}},
		{api.MaxImm + 1, []api.Inst{li(3, 0), lih(3, -2147483648)}},
		{1<<32 - 1, []api.Inst{li(3, 0), lih(3, -1)}},
		{1 << 32, []api.Inst{li(3, 1), lih(3, 0)}},
		{1<<32 + 1, []api.Inst{li(3, 1), lih(3, 1)}},
		{-1<<32 - 1, []api.Inst{li(3, -2), lih(3, -1)}},
		{-1 << 32, []api.Inst{li(3, -1), lih(3, 0)}},
		{-1<<32 + 1, []api.Inst{li(3, -1), lih(3, 1)}},
		{1<<32 + 1<<31 - 1, []api.Inst{li(3, 1), lih(3, 2147483647)}},
		{1<<32 + 1<<31, []api.Inst{li(3, 1), lih(3, -2147483648)}},
		{api.MinInt, []api.Inst{li(3, -2147483648), lih(3, 0)}},
		{api.MinInt + 1, []api.Inst{li(3, -2147483648), lih(3, 1)}},
		{api.MaxInt - 1, []api.Inst{li(3, 2147483647), lih(3, -2)}},
		{api.MaxInt, []api.Inst{li(3, 2147483647), lih(3, -1)}},
	} {
		if got := Const(3, c.n); !slices.Equal(got, c.want) {
			t.Errorf("Const(3, %d): %+v; want %+v", c.n, got, c.want)
		}
	}
}

// wordsConst is Const by the chapter's words: the quotient rounded down, and what is left, from MinImm to MaxImm.
func wordsConst(reg, n int) []api.Inst {
	if n >= api.MinImm && n <= api.MaxImm {
		return []api.Inst{li(reg, n)}
	}
	high, low := n/(1<<32), n%(1<<32)
	if low < 0 {
		high, low = high-1, low+1<<32
	}
	if low > api.MaxImm {
		low -= 1 << 32
	}
	return []api.Inst{li(reg, high), lih(reg, low)}
}

// manyNumbers are those above, all that lie beside powers of 2, and others all over.
func manyNumbers() []int {
	l := slices.Clone(numbers)
	for bit := range 64 {
		for d := -2; d <= 2; d++ {
			l = append(l, 1<<bit+d, -(1<<bit)+d)
		}
	}
	n := uint64(88172645463325252)
	for range 2000 {
		n ^= n << 13
		n ^= n >> 7
		n ^= n << 17
		l = append(l, int(n), int(n)>>20, int(n)>>30, int(n)>>40)
	}
	return l
}

func TestConstByTheWords(t *testing.T) {
	for i, n := range manyNumbers() {
		reg := i % api.Registers
		got := Const(reg, n)
		if !slices.Equal(got, wordsConst(reg, n)) {
			t.Errorf("Const(%d, %d): %+v; want %+v", reg, n, got, wordsConst(reg, n))
		}
		for _, x := range got {
			if !inst.Right(x) {
				t.Errorf("Const(%d, %d): %+v is not right", reg, n, x)
			}
		}
	}
}

func TestConstOfEachRegister(t *testing.T) {
	for _, reg := range []int{api.MinInt, -1, 0, 1, 2, 3, 4, 5, 6, 7, 8, 9, 10, 11, 12, 13, 14, 15, 16, 1 << 32, api.MaxInt} {
		for _, n := range numbers {
			if got := Const(reg, n); !slices.Equal(got, wordsConst(reg, n)) {
				t.Errorf("Const(%d, %d): %+v", reg, n, got)
			}
		}
	}
}

// P5.4

func TestTextKnown(t *testing.T) {
	for _, c := range []struct {
		x    api.Line
		want string
	}{
		{Label(1), "L1:\n"},
		{Label(10), "L10:\n"},
		{Label(api.MaxInt), "L9223372036854775807:\n"},
		{Plain(halt(0)), "  halt 0\n"},
		{Plain(out(2)), "  out r2\n"},
		{Plain(ret()), "  ret\n"},
		{Plain(addi(14, 14, -3)), "  addi r14 r14 -3\n"},
		{Plain(api.Inst{Op: api.IBin, A: 1, B: 2, C: 3, Imm: api.Add}), "  bin.1 r1 r2 r3\n"},
		{Plain(jumpTo(api.IJmp, 0, 7)), "  jmp 7\n"},
		{Plain(jumpTo(api.IJz, 4, 0)), "  jz r4 0\n"},
		{Jump(api.IJmp, 0, 1), "  jmp 0 >L1\n"},
		{Jump(api.IJz, 15, 23), "  jz r15 0 >L23\n"},
		{Jump(api.ICall, 0, api.MaxInt), "  call 0 >L9223372036854775807\n"},
		{Plain(api.Inst{Op: -1}), "  ?\n"}, // what is not right has a text too
		{Jump(api.IJmp, 1, 5), "  ? >L5\n"},
		{Jump(api.IOut, 2, 1), "  out r2 >L1\n"},
		{api.Line{Inst: jumpTo(api.IJmp, 0, 3), To: 4}, "  jmp 3 >L4\n"},
		{Jump(api.IJmp, 0, -1), "  jmp 0 >L-1\n"},
		{Label(-1), "L-1:\n"},
		{api.Line{Label: 3, Inst: out(2), To: 4}, "L3:\n"},
	} {
		if got := Text(linesOf(c.x)); got != c.want {
			t.Errorf("Text(%+v): %q; want %q", c.x, got, c.want)
		}
	}
}

func TestTextOfNoLines(t *testing.T) {
	for _, l := range [][]api.Line{nil, {}} {
		if got := Text(l); got != "" {
			t.Errorf("Text of none: %q", got)
		}
	}
}

func TestTextLineByLine(t *testing.T) {
	var l []api.Line
	var want []string
	for i, x := range each() {
		l = append(l, Label(i+1), Plain(x))
		want = append(want, "L"+strconv.Itoa(i+1)+":\n", "  "+inst.Text(x)+"\n")
	}
	for i, op := range jumping {
		l = append(l, Jump(op, 0, i+1))
		want = append(want, "  "+inst.Text(jumpTo(op, 0, 0))+" >L"+strconv.Itoa(i+1)+"\n")
	}
	for n := range len(l) + 1 {
		if got := Text(l[:n]); got != strings.Join(want[:n], "") {
			t.Errorf("Text of %d lines: %q; want %q", n, got, want[:n])
		}
	}
}

// P5.5

// spacious is a row of lines with spare room that holds something.
func spacious() []api.Line {
	l := linesOf(
		Jump(api.IJmp, 0, 2), Label(5), Plain(out(2)), Jump(api.IJz, 1, 5), Label(2), Plain(halt(0)),
		Label(77), Plain(ret()), Jump(api.ICall, 0, 78),
	)
	return l[:6]
}

func TestWhatIsHandedInIsNotChanged(t *testing.T) {
	l := spacious()
	before := slices.Clone(l[:cap(l)])
	same := func(call string) {
		t.Helper()
		if !slices.Equal(l[:cap(l)], before) {
			t.Errorf("%s changed its lines: %+v", call, l[:cap(l)])
			copy(l[:cap(l)], before)
		}
	}
	Assemble(l)
	same("Assemble")
	Places(l)
	same("Places")
	Text(l)
	same("Text")
	for _, x := range []api.Line{Label(5), Jump(api.IJmp, 0, 9), Plain(out(16))} { // with an error too
		l[1] = x
		before[1] = x
		Assemble(l)
		same("Assemble")
		Places(l)
		same("Places")
		Text(l)
		same("Text")
	}
}

func TestWhatIsHandedInIsNotKept(t *testing.T) {
	l := spacious()
	code, _ := Assemble(l)
	places, _ := Places(l)
	text := Text(l)
	wantCode, wantPlaces, wantText := slices.Clone(code), slices.Clone(places), strings.Clone(text)
	clear(l[:cap(l)])
	if !slices.Equal(code, wantCode) || !slices.Equal(places, wantPlaces) || text != wantText {
		t.Errorf("the answers changed with the lines: %+v, %v, %q", code, places, text)
	}
	comesTo(t, linesOf(Label(5), Plain(ret())), []api.Inst{ret()}, [][2]int{{5, 0}}) // no label of another call is kept
	refused(t, linesOf(Jump(api.IJmp, 0, 5)), api.ErrNone, api.OK)
}

func TestWhatIsAnsweredIsNew(t *testing.T) {
	l := spacious()
	before := slices.Clone(l[:cap(l)])
	code, _ := Assemble(l)
	places, _ := Places(l)
	wantCode, wantPlaces := slices.Clone(code), slices.Clone(places)
	otherCode, _ := Assemble(l)
	otherPlaces, _ := Places(l)
	for i := range otherCode[:cap(otherCode)] {
		otherCode[:cap(otherCode)][i] = addi(9, 9, 9)
	}
	for i := range otherPlaces[:cap(otherPlaces)] {
		otherPlaces[:cap(otherPlaces)][i] = [2]int{9, 9}
	}
	if !slices.Equal(l[:cap(l)], before) {
		t.Errorf("the lines changed with the answers: %+v", l[:cap(l)])
	}
	if !slices.Equal(code, wantCode) || !slices.Equal(places, wantPlaces) {
		t.Errorf("two answers share memory: %+v, %v", code, places)
	}
	comesTo(t, l, wantCode, wantPlaces)
}

func TestConstIsNew(t *testing.T) {
	for _, n := range []int{7, 1 << 40} {
		first, second := Const(1, n), Const(1, n)
		for i := range second[:cap(second)] {
			second[:cap(second)][i] = ret()
		}
		if !slices.Equal(first, wordsConst(1, n)) || !slices.Equal(Const(1, n), wordsConst(1, n)) {
			t.Errorf("Const(1, %d): %+v, then %+v", n, first, Const(1, n))
		}
	}
}

// P5.6

// behind is the first instruction behind a label; false, if there is none.
func behind(l []api.Line, label int) (api.Line, bool) {
	at := slices.IndexFunc(l, func(x api.Line) bool { return x.Label == label })
	for _, x := range l[at+1:] {
		if x.Label == 0 {
			return x, true
		}
	}
	return api.Line{}, false
}

// leadsBehind fails the test if a jump of the code leads elsewhere than behind its label; the instructions of l are told apart by A.
func leadsBehind(t *testing.T, l []api.Line, code []api.Inst) {
	t.Helper()
	plain := slices.DeleteFunc(slices.Clone(l), func(x api.Line) bool { return x.Label != 0 })
	if len(code) != len(plain) {
		t.Fatalf("%+v: %d instructions", l, len(code))
	}
	for i, x := range plain {
		if x.To == 0 {
			continue
		}
		next, there := behind(l, x.To)
		place := code[i].Imm
		if there && (place >= len(code) || code[place].Op != next.Inst.Op || code[place].A != next.Inst.A) || !there && place != len(code) {
			t.Fatalf("%+v: %+v does not lead behind its label", l, code[i])
		}
	}
}

func TestJumpsLeadBehindTheirLabels(t *testing.T) {
	pool := linesOf(Label(1), Label(2), Label(3), Plain(out(0)), Jump(api.IJz, 0, 1), Jump(api.IJz, 0, 2), Jump(api.IJz, 0, 3))
	rows(pool, 6, func(row []api.Line) {
		l := slices.Clone(row)
		for i := range l {
			if l[i].Label == 0 {
				l[i].Inst.A = i
			}
		}
		if code, err := Assemble(l); err == api.OK {
			leadsBehind(t, l, code)
		}
	})
}

// ends runs code, with 10 cells, to its end.
func ends(t *testing.T, code []api.Inst, input ...int) (api.End, []int) {
	t.Helper()
	x, err := machine.New(code, 10, input)
	if err != api.OK {
		t.Fatalf("no machine of %+v: error %d", code, err)
	}
	x.Run(10000)
	end, ended := x.End()
	if !ended {
		t.Fatalf("%+v does not end", code)
	}
	return end, x.Output()
}

func TestJumpsOnTheMachine(t *testing.T) {
	code, err := Assemble(linesOf( // counts down from what is read, by a call of 50; a jump ahead leads over that
		Jump(api.IJmp, 0, 20),
		Label(50), Plain(out(1)), Plain(addi(1, 1, -1)), Plain(ret()),
		Label(20), Plain(in(1)),
		Label(7), Jump(api.IJz, 1, 3), Jump(api.ICall, 0, 50), Jump(api.IJmp, 0, 7),
		Plain(halt(9)), Label(3), Plain(halt(4)),
	))
	if err != api.OK {
		t.Fatalf("Assemble: error %d", err)
	}
	for n := range 5 {
		var want []int
		for i := n; i > 0; i-- {
			want = append(want, i)
		}
		if end, output := ends(t, code, n); end != (api.End{Code: 4}) || !slices.Equal(output, want) {
			t.Errorf("of %d: %+v, %v", n, end, output)
		}
	}
}

func TestJumpBehindTheLastInstructionOnTheMachine(t *testing.T) {
	code, err := Assemble(linesOf(Jump(api.IJmp, 0, 1), Plain(halt(0)), Label(1)))
	if err != api.OK {
		t.Fatalf("Assemble: error %d", err)
	}
	if end, _ := ends(t, code); end != (api.End{Err: api.ErrCode}) {
		t.Errorf("it ended with %+v", end)
	}
}

// P5.7

func TestConstOnTheMachine(t *testing.T) {
	for _, n := range manyNumbers() {
		for _, reg := range []int{0, 9, api.RegLink} {
			constComes(t, reg, n, ^n)
		}
	}
	for reg := range api.Registers {
		if reg == api.RegSP { // which holds cells alone
			continue
		}
		for _, n := range numbers {
			for _, before := range []int{0, -1, api.MinInt, api.MaxInt, 1 << 32} {
				constComes(t, reg, n, before)
			}
		}
	}
}

func TestConstOfTheStackOnTheMachine(t *testing.T) {
	for n := 1; n <= 10; n++ { // all floors that a heap of no cells leaves
		constComes(t, api.RegSP, n, 10)
	}
}

// constComes fails the test if the register, which held something else, does not come to n, or if another one changes.
func constComes(t *testing.T, reg, n, before int) {
	t.Helper()
	code := append([]api.Inst{in(reg)}, Const(reg, n)...)
	x, err := machine.New(append(code, halt(0)), 10, []int{before})
	if err != api.OK {
		t.Fatalf("no machine of %+v: error %d", code, err)
	}
	want := x.Regs()
	want[reg] = n
	x.Run(10)
	if end, ended := x.End(); !ended || end != (api.End{}) || x.Regs() != want {
		t.Errorf("Const(%d, %d), at first %d: %+v, %v", reg, n, before, end, x.Regs())
	}
}
