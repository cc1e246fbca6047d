package machine

import (
	"reflect"
	"slices"
	"testing"

	"swage/api"
	"swage/inst"
	"swage/memory"
	"swage/word"
)

// numbers are such as registers are to hold whole, the edges of 32 and of 64 bits among them.
var numbers = []int{
	api.MinInt, api.MinInt + 1, -1<<32 - 1, -1 << 32, api.MinImm, -65, -64, -2, -1, 0, 1, 2, 3, 31, 63, 64, 65,
	api.MaxImm, 1 << 31, 1<<32 - 1, 1 << 32, 1<<53 + 1, api.MaxInt - 1, api.MaxInt,
}

// row keeps the tables of the tests short: an instruction with its fields in their order.
func row(op, a, b, c, imm int) api.Inst {
	return api.Inst{Op: op, A: a, B: b, C: c, Imm: imm}
}

func halt(imm int) api.Inst           { return row(api.IHalt, 0, 0, 0, imm) }
func li(a, imm int) api.Inst          { return row(api.ILi, a, 0, 0, imm) }
func lih(a, imm int) api.Inst         { return row(api.ILih, a, 0, 0, imm) }
func mov(a, b int) api.Inst           { return row(api.IMov, a, b, 0, 0) }
func bin(op, a, b, c int) api.Inst    { return row(api.IBin, a, b, c, op) }
func ld(a, b, imm int) api.Inst       { return row(api.ILd, a, b, 0, imm) }
func st(a, b, imm int) api.Inst       { return row(api.ISt, a, b, 0, imm) }
func jmp(imm int) api.Inst            { return row(api.IJmp, 0, 0, 0, imm) }
func jz(a, imm int) api.Inst          { return row(api.IJz, a, 0, 0, imm) }
func call(imm int) api.Inst           { return row(api.ICall, 0, 0, 0, imm) }
func ret() api.Inst                   { return row(api.IRet, 0, 0, 0, 0) }
func in(a int) api.Inst               { return row(api.IIn, a, 0, 0, 0) }
func out(a int) api.Inst              { return row(api.IOut, a, 0, 0, 0) }
func alloc(a, b int) api.Inst         { return row(api.IAlloc, a, b, 0, 0) }
func addi(a, b, imm int) api.Inst     { return row(api.IAddi, a, b, 0, imm) }
func codeOf(l ...api.Inst) []api.Inst { return l }

// made fails the test if there is no such machine.
func made(t *testing.T, code []api.Inst, cells int, input ...int) *Machine {
	t.Helper()
	x, err := New(code, cells, input)
	if x == nil || err != api.OK {
		t.Fatalf("New of %d instructions, %d cells: error %d", len(code), cells, err)
	}
	return x
}

// state is all that can be told of a machine, and what no call tells: its memory. Lists of it are never nil.
type state struct {
	regs                       [16]int
	place, left, loads, stores int
	end                        api.End
	ended                      bool
	output                     []int
	heap, floor                int
	cells                      []cell
}

// cell is what asking for a cell answers.
type cell struct {
	v   int
	err api.Errno
}

func cellsOf(m *memory.Memory) []cell {
	l := []cell{}
	for at := range m.Cells() {
		v, err := m.Load(at)
		l = append(l, cell{v, err})
	}
	return l
}

func stateOf(x *Machine) state {
	end, ended := x.End()
	return state{
		regs: x.Regs(), place: x.Place(), left: x.Left(), loads: x.Loads(), stores: x.Stores(),
		end: end, ended: ended, output: append([]int{}, x.Output()...),
		heap: x.memory.Heap(), floor: x.memory.Floor(), cells: cellsOf(x.memory),
	}
}

// is fails the test if x is not just as it should be.
func is(t *testing.T, x *Machine, want state) {
	t.Helper()
	if got := stateOf(x); !reflect.DeepEqual(got, want) {
		t.Errorf("the machine is\n%+v; want\n%+v", got, want)
	}
}

// endsWith runs x to its end, which has to come within many steps.
func endsWith(t *testing.T, x *Machine, want api.End, output ...int) {
	t.Helper()
	x.Run(1 << 22)
	end, ended := x.End()
	if !ended || end != want || !slices.Equal(x.Output(), output) {
		t.Errorf("End %+v, %t, Output %v; want %+v, %v", end, ended, x.Output(), want, output)
	}
}

// steps makes n steps, none of which may end x.
func steps(t *testing.T, x *Machine, n int) {
	t.Helper()
	for range n {
		if !x.Step() {
			t.Fatal("the machine made no step")
		}
		if end, ended := x.End(); ended {
			t.Fatalf("the machine ended at %d with %+v", x.Place(), end)
		}
	}
}

// preset are registers with what they are to hold, set by input, which alone comes to all numbers.
type preset map[int]int

// lead answers the instructions and the input that set the registers.
func (p preset) lead() ([]api.Inst, []int) {
	var code []api.Inst
	var input []int
	for r := range api.Registers {
		if v, set := p[r]; set {
			code = append(code, in(r))
			input = append(input, v)
		}
	}
	return code, input
}

// busyLead lets a machine of 20 cells have something of all: 3 cells of heap, 4 of stack, some of which hold 77; a load, two stores, output.
func busyLead() []api.Inst {
	return codeOf(
		li(1, 3), alloc(2, 1), addi(api.RegSP, api.RegSP, -4),
		li(3, 77), st(3, 2, 0), st(3, api.RegSP, 2), ld(4, 2, 0), out(4), call(9),
	)
}

// busy answers such a machine, with the registers set, ahead of that instruction.
func busy(t *testing.T, p preset, i api.Inst, input ...int) *Machine {
	t.Helper()
	code := busyLead()
	sets, first := p.lead()
	code = append(append(code, sets...), i)
	x := made(t, code, 20, append(first, input...)...)
	steps(t, x, len(code)-1)
	if x.memory.Heap() != 4 || x.memory.Floor() != x.Regs()[api.RegSP] || x.Place() != len(code)-1 {
		t.Fatalf("heap %d, floor %d, place %d", x.memory.Heap(), x.memory.Floor(), x.Place())
	}
	return x
}

// P4.1: New

func TestNewBegins(t *testing.T) {
	for _, cells := range []int{1, 2, 20, 1000, api.MaxCells} {
		x := made(t, codeOf(out(1), halt(0)), cells, 4, 5, 6)
		want := [16]int{api.RegSP: cells}
		end, ended := x.End()
		if x.Regs() != want || x.Place() != 0 || x.Left() != 3 || len(x.Output()) != 0 || x.Loads() != 0 || x.Stores() != 0 {
			t.Errorf("%d cells: %v, place %d, left %d", cells, x.Regs(), x.Place(), x.Left())
		}
		if ended || end != (api.End{}) {
			t.Errorf("%d cells: ended with %+v", cells, end)
		}
		if x.memory.Heap() != 1 || x.memory.Floor() != cells || x.memory.Cells() != cells {
			t.Errorf("%d cells: heap %d, floor %d", x.memory.Cells(), x.memory.Heap(), x.memory.Floor())
		}
	}
}

func TestNewRefusesOtherCells(t *testing.T) {
	for _, cells := range []int{0, -1, api.MinInt, -1<<32 + 5, api.MaxCells + 1, 2 * api.MaxCells, 1<<32 + 5, api.MaxInt} {
		for _, code := range [][]api.Inst{nil, codeOf(halt(0))} {
			if x, err := New(code, cells, []int{1}); x != nil || err != api.ErrArg {
				t.Errorf("%d cells: %t, error %d", cells, x != nil, err)
			}
		}
	}
}

func TestNewRefusesWrongInstructions(t *testing.T) {
	for _, wrong := range []api.Inst{
		{Op: -1}, {Op: 15}, {Op: 99}, {Op: 256}, {Op: 1 << 32}, {Op: api.MinInt}, {Op: api.MaxInt},
		{Op: api.IHalt, A: 1}, {Op: api.IHalt, Imm: api.MaxImm + 1}, {Op: api.IHalt, Imm: api.MinImm - 1},
		{Op: api.ILi, A: 16}, {Op: api.ILi, A: -1}, {Op: api.ILi, B: 1}, {Op: api.ILih, A: 16}, {Op: api.ILih, Imm: 1 << 32},
		{Op: api.IMov, B: 16}, {Op: api.IMov, Imm: 1}, {Op: api.IBin}, {Op: api.IBin, Imm: 15}, {Op: api.IBin, C: 16, Imm: 1},
		{Op: api.ILd, C: 1}, {Op: api.ILd, B: -1}, {Op: api.ISt, A: 16}, {Op: api.ISt, Imm: api.MaxImm + 1},
		{Op: api.IJmp, Imm: -1}, {Op: api.IJz, Imm: -1}, {Op: api.IJz, A: 16}, {Op: api.ICall, Imm: -1}, {Op: api.ICall, A: 15},
		{Op: api.IRet, A: 15}, {Op: api.IRet, Imm: 1}, {Op: api.IIn, A: 16}, {Op: api.IIn, B: 1}, {Op: api.IOut, Imm: 1},
		{Op: api.IAlloc, A: 16}, {Op: api.IAlloc, C: 1}, {Op: api.IAddi, B: 16}, {Op: api.IAddi, Imm: api.MinImm - 1},
	} {
		for at := range 4 { // the only one, and each place among right ones, also behind the end of what is run
			code := codeOf(halt(0), out(1), halt(0))[:max(at-1, 0)]
			code = append(append(slices.Clone(code), wrong), codeOf(halt(0), ret(), jmp(0))[:at]...)
			if x, err := New(code, 10, nil); x != nil || err != api.ErrArg {
				t.Errorf("%+v among %d: %t, error %d", wrong, len(code), x != nil, err)
			}
		}
	}
}

func TestNewTakesAllRightInstructions(t *testing.T) {
	for op := range 15 {
		x := api.Inst{Op: op}
		if op == api.IBin {
			x.Imm = api.Ne
		}
		if !inst.Right(x) {
			t.Fatalf("%+v is not right", x)
		}
		made(t, codeOf(x), 1)
	}
}

func TestNewOfManyInstructions(t *testing.T) {
	code := make([]api.Inst, api.MaxCode+1)
	for i := range code {
		code[i] = addi(1, 1, 1)
	}
	for _, cells := range []int{10, 0, -1, api.MaxCells + 1} { // ErrFull is named first
		if x, err := New(code, cells, nil); x != nil || err != api.ErrFull {
			t.Errorf("MaxCode + 1 instructions, %d cells: %t, error %d", cells, x != nil, err)
		}
	}
	for _, at := range []int{0, api.MaxCode} {
		code[at].Op = 99
		if x, err := New(code, 10, nil); x != nil || err != api.ErrFull {
			t.Errorf("MaxCode + 1 instructions, a wrong one at %d: %t, error %d", at, x != nil, err)
		}
		code[at].Op = api.IAddi
	}
	code = code[:api.MaxCode]
	x := made(t, code, 10)
	if n := x.Run(api.MaxInt); n != api.MaxCode+1 || x.Place() != api.MaxCode || x.Regs()[1] != api.MaxCode {
		t.Errorf("Run of MaxCode instructions: %d steps, place %d, r1 %d", n, x.Place(), x.Regs()[1])
	}
	endsWith(t, x, api.End{Err: api.ErrCode})
	code[0], code[api.MaxCode-1] = jmp(api.MaxCode-1), halt(9)
	x = made(t, code, 10)
	endsWith(t, x, api.End{Code: 9})
	if x.Place() != api.MaxCode-1 {
		t.Errorf("place %d", x.Place())
	}
	code[api.MaxCode-1].A = 1
	if x, err := New(code, 10, nil); x != nil || err != api.ErrArg {
		t.Errorf("MaxCode instructions, the last one wrong: %t, error %d", x != nil, err)
	}
}

// P4.1: Step and Run

func TestNoCodeAtAll(t *testing.T) {
	for _, code := range [][]api.Inst{nil, {}} {
		x := made(t, code, 1, 5)
		want := stateOf(x)
		want.end, want.ended = api.End{Err: api.ErrCode}, true
		if !x.Step() {
			t.Error("Step made no step")
		}
		is(t, x, want)
		if x.Step() || x.Run(5) != 0 {
			t.Error("a machine that ended made a step")
		}
		is(t, x, want)
	}
}

func TestFuel(t *testing.T) {
	code := codeOf(addi(1, 1, 1), out(1), jmp(0))
	x := made(t, code, 5)
	begin := stateOf(x)
	for _, fuel := range []int{0, -1, -2, api.MinInt} {
		if n := x.Run(fuel); n != 0 {
			t.Errorf("Run(%d): %d", fuel, n)
		}
		is(t, x, begin)
	}
	for i, fuel := range []int{1, 2, 3, 1, 1, 1, 6} {
		if n := x.Run(fuel); n != fuel {
			t.Errorf("Run(%d): %d", fuel, n)
		}
		if end, ended := x.End(); ended || end != (api.End{}) {
			t.Errorf("it ended with %+v", end)
		}
		if want := []int{1, 0, 0, 1, 2, 0, 0}[i]; x.Place() != want {
			t.Errorf("Run(%d): place %d, want %d", fuel, x.Place(), want)
		}
	}
	if !slices.Equal(x.Output(), []int{1, 2, 3, 4, 5}) {
		t.Errorf("Output %v", x.Output())
	}
}

func TestFuelThatEndsAheadOfTheProgram(t *testing.T) {
	code := codeOf(out(api.RegSP), li(1, 8), out(1), halt(2))
	for fuel := range 8 {
		x := made(t, code, 5)
		if n := x.Run(fuel); n != min(fuel, 4) { // the halt is a step too
			t.Errorf("Run(%d): %d", fuel, n)
		}
		end, ended := x.End()
		if ended != (fuel >= 4) || ended && end != (api.End{Code: 2}) || !ended && end != (api.End{}) {
			t.Errorf("Run(%d): %+v, %t", fuel, end, ended)
		}
		if x.Place() != min(fuel, 3) {
			t.Errorf("Run(%d): place %d", fuel, x.Place())
		}
		if want := []int{5, 8}[:[]int{0, 1, 1, 2, 2, 2, 2, 2}[fuel]]; !slices.Equal(x.Output(), want) {
			t.Errorf("Run(%d): %v", fuel, x.Output())
		}
	}
}

func TestStepsThatEndAreCounted(t *testing.T) {
	for _, x := range []struct {
		code  []api.Inst
		steps int
		err   api.Errno
	}{
		{codeOf(halt(0)), 1, api.OK},
		{codeOf(in(1)), 1, api.ErrInput},
		{codeOf(out(1)), 2, api.ErrCode},
		{codeOf(jmp(7)), 2, api.ErrCode},
		{codeOf(li(1, 4), bin(api.Rem, 1, 1, 2)), 2, api.ErrDivide},
	} {
		for _, fuel := range []int{x.steps, x.steps + 1, 1 << 31, api.MaxInt} {
			m := made(t, x.code, 5)
			if n := m.Run(fuel); n != x.steps {
				t.Errorf("Run(%d) of %v: %d steps", fuel, x.code, n)
			}
			if end, ended := m.End(); !ended || end.Err != x.err {
				t.Errorf("%v: %+v", x.code, end)
			}
		}
	}
}

func TestNothingHappensToOneThatEnded(t *testing.T) {
	for name, x := range map[string]*Machine{
		"halt":   busy(t, nil, halt(-5), 1, 2),
		"code":   busy(t, nil, jmp(4000), 1, 2),
		"divide": busy(t, nil, bin(api.Div, 1, 1, 9), 1, 2),
		"addr":   busy(t, nil, ld(1, 0, 0), 1, 2),
		"stack":  busy(t, nil, li(api.RegSP, 0), 1, 2),
		"memory": busy(t, preset{1: 100}, alloc(1, 1), 1, 2),
		"grown":  busy(t, preset{1: 2}, alloc(api.RegSP, 1), 1, 2),
		"input":  busy(t, nil, in(1)),
	} {
		x.Run(100)
		ended := stateOf(x)
		if !ended.ended {
			t.Fatalf("%s did not end", name)
		}
		for range 3 {
			if x.Step() {
				t.Errorf("%s: Step made a step", name)
			}
			for _, fuel := range []int{api.MinInt, 0, 1, 100, api.MaxInt} {
				if n := x.Run(fuel); n != 0 {
					t.Errorf("%s: Run(%d): %d", name, fuel, n)
				}
			}
			is(t, x, ended)
		}
	}
}

// The table of what instructions do

// done makes one step, and answers how x was ahead of it, with the place one more: what it is then, but for what the instruction changes.
func done(t *testing.T, x *Machine) state {
	t.Helper()
	want := stateOf(x)
	if want.ended || !x.Step() {
		t.Fatal("the machine made no step")
	}
	want.place++
	return want
}

func TestHalt(t *testing.T) {
	for _, imm := range []int{api.MinImm, -1, 0, 1, 7, api.MaxImm} {
		x := busy(t, nil, halt(imm), 1)
		want := done(t, x)
		want.place-- // it stays
		want.end, want.ended = api.End{Code: imm}, true
		is(t, x, want)
	}
}

func TestLi(t *testing.T) {
	for r := range api.Registers {
		for _, imm := range []int{api.MinImm, -1, 0, 1, api.MaxImm} {
			if r == api.RegSP {
				continue // of which other tests tell
			}
			x := busy(t, preset{r: 55}, li(r, imm))
			want := done(t, x)
			want.regs[r] = imm
			is(t, x, want)
		}
	}
}

func TestLih(t *testing.T) {
	for _, l := range []struct{ a, imm, want int }{
		{0, 0, 0}, {0, 1, 1}, {0, -1, 1<<32 - 1}, {0, api.MinImm, 1 << 31}, {0, api.MaxImm, 1<<31 - 1},
		{1, 0, 1 << 32}, {1, -1, 1<<33 - 1}, {1, -2, 1<<33 - 2}, {-1, 0, -1 << 32}, {-1, -1, -1}, {-1, 5, -1<<32 + 5},
		{api.MaxImm, -1, api.MaxInt}, {api.MinImm, 0, api.MinInt}, {api.MinImm, -1, api.MinInt + 1<<32 - 1},
		{1 << 31, 0, api.MinInt}, {1 << 32, 9, 9}, {1<<32 + 1, 9, 1<<32 + 9}, {api.MinInt, -9, 1<<32 - 9}, {api.MaxInt, 3, -1<<32 + 3},
	} {
		for _, r := range []int{0, 6, api.RegLink} {
			x := busy(t, preset{r: l.a}, lih(r, l.imm))
			want := done(t, x)
			want.regs[r] = l.want
			is(t, x, want)
		}
	}
}

func TestLiAndLihMakeAllNumbers(t *testing.T) {
	for _, n := range numbers {
		x := made(t, codeOf(li(1, n>>32), lih(1, word.Wrap(n, 32, true)), out(1), halt(0)), 5)
		endsWith(t, x, api.End{}, n)
	}
}

func TestMov(t *testing.T) {
	for _, n := range numbers {
		x := busy(t, preset{5: n, 6: 1}, mov(6, 5))
		want := done(t, x)
		want.regs[6] = n
		is(t, x, want)
		x = busy(t, preset{5: n}, mov(5, 5))
		is(t, x, done(t, x))
	}
	x := busy(t, nil, mov(7, api.RegSP))
	want := done(t, x)
	want.regs[7] = 16
	is(t, x, want)
}

func TestAddi(t *testing.T) {
	for _, l := range []struct{ b, imm, want int }{
		{0, 0, 0}, {5, 6, 11}, {5, -6, -1}, {-5, api.MaxImm, api.MaxImm - 5}, {1 << 40, api.MinImm, 1<<40 - 1<<31},
		{api.MaxInt, 1, api.MinInt}, {api.MaxInt, api.MaxImm, api.MinInt + 1<<31 - 2}, {api.MinInt, -1, api.MaxInt},
		{api.MinInt, api.MinImm, api.MaxInt - 1<<31 + 1}, {api.MaxInt, 0, api.MaxInt},
	} {
		x := busy(t, preset{5: l.b, 6: 1}, addi(6, 5, l.imm))
		want := done(t, x)
		want.regs[6] = l.want
		is(t, x, want)
		x = busy(t, preset{5: l.b}, addi(5, 5, l.imm))
		want = done(t, x)
		want.regs[5] = l.want
		is(t, x, want)
	}
}

func TestBinByHand(t *testing.T) {
	for _, l := range []struct{ op, b, c, want int }{
		{api.Add, api.MaxInt, 1, api.MinInt}, {api.Sub, 3, 5, -2}, {api.Mul, -3, 7, -21}, {api.Div, -7, 2, -3}, {api.Rem, -7, 2, -1},
		{api.Div, api.MinInt, -1, api.MinInt}, {api.Rem, api.MinInt, -1, 0}, {api.And, 12, 10, 8}, {api.Or, 12, 10, 14}, {api.Xor, 12, 10, 6},
		{api.Shl, 3, 4, 48}, {api.Shl, 3, 64, 0}, {api.Shr, -1, 70, -1}, {api.Shr, 48, 4, 3},
		{api.Lt, 3, 5, 1}, {api.Lt, 5, 3, 0}, {api.Le, 5, 5, 1}, {api.Eq, 5, 5, 1}, {api.Eq, 5, 6, 0}, {api.Ne, 5, 6, 1},
	} {
		x := busy(t, preset{5: l.b, 6: l.c, 7: 99}, bin(l.op, 7, 5, 6))
		want := done(t, x)
		want.regs[7] = l.want
		is(t, x, want)
	}
}

// All operations at all edges, also where the register that is written is one of those that are read.
func TestBinIsWordsDo(t *testing.T) {
	for op := api.Add; op <= api.Ne; op++ {
		for _, b := range numbers {
			for _, c := range numbers {
				for _, a := range []int{7, 5, 6} {
					x := made(t, codeOf(in(5), in(6), bin(op, a, 5, 6)), 3, b, c)
					steps(t, x, 2)
					want := done(t, x)
					v, err := word.Do(op, b, c)
					if err != api.OK {
						want.place, want.end, want.ended = 2, api.End{Err: err}, true
					} else {
						want.regs[a] = v
					}
					is(t, x, want)
				}
			}
		}
		x := made(t, codeOf(in(5), bin(op, 5, 5, 5)), 3, 9) // all three are one
		x.Run(2)
		if v, _ := word.Do(op, 9, 9); x.Regs()[5] != v {
			t.Errorf("operation %d of 9 and itself: %d", op, x.Regs()[5])
		}
	}
}

func TestLd(t *testing.T) {
	for _, l := range []struct{ b, imm, want int }{
		{1, 0, 77}, {2, -1, 77}, {1, 1, 0}, {0, 3, 0}, {16, 2, 77}, {18, 0, 77}, {16, 0, 0}, {19, 0, 0}, {20, -1, 0},
		{1 << 31, api.MinImm + 18, 77}, {18 - api.MaxImm, api.MaxImm, 77},
	} {
		x := busy(t, preset{5: l.b, 6: 99}, ld(6, 5, l.imm))
		want := done(t, x)
		want.regs[6] = l.want
		want.loads++
		is(t, x, want)
		x = busy(t, preset{5: l.b}, ld(5, 5, l.imm)) // into the register that says where
		want = done(t, x)
		want.regs[5] = l.want
		want.loads++
		is(t, x, want)
	}
}

func TestSt(t *testing.T) {
	for _, at := range []int{1, 2, 3, 16, 17, 18, 19} {
		for i, n := range numbers {
			imm := []int{0, 1, -1, api.MaxImm, api.MinImm}[i%5]
			x := busy(t, preset{5: n, 6: at - imm}, st(5, 6, imm))
			want := done(t, x)
			want.cells[at].v = n
			want.stores++
			is(t, x, want)
		}
		x := busy(t, preset{5: at}, st(5, 5, 0)) // the cell holds where it is
		want := done(t, x)
		want.cells[at].v = at
		want.stores++
		is(t, x, want)
	}
	x := busy(t, nil, st(api.RegSP, api.RegSP, 1))
	want := done(t, x)
	want.cells[17].v = 16
	want.stores++
	is(t, x, want)
}

func TestJmp(t *testing.T) {
	for _, to := range []int{0, 3, 9, 10, 11, api.MaxCode, api.MaxImm} { // 9 is its own place, 10 the code's end
		x := busy(t, nil, jmp(to))
		want := done(t, x)
		want.place = to
		is(t, x, want)
	}
}

func TestJz(t *testing.T) {
	for _, to := range []int{0, 3, 10, 11, 500, api.MaxImm} { // 10 is its own place
		x := busy(t, preset{5: 0}, jz(5, to))
		want := done(t, x)
		want.place = to
		is(t, x, want)
		for _, n := range numbers {
			if n == 0 {
				continue
			}
			x := busy(t, preset{5: n}, jz(5, to))
			is(t, x, done(t, x))
		}
	}
}

func TestCall(t *testing.T) {
	for _, to := range []int{0, 3, 9, 10, api.MaxImm} {
		x := busy(t, nil, call(to))
		want := done(t, x)
		want.regs[api.RegLink] = want.place // one more than where it was
		want.place = to
		is(t, x, want)
	}
}

func TestRet(t *testing.T) {
	for _, n := range numbers {
		x := busy(t, preset{api.RegLink: n}, ret())
		want := done(t, x)
		want.place = n
		is(t, x, want)
	}
}

func TestIn(t *testing.T) {
	for _, n := range numbers {
		for r := range api.Registers {
			if r == api.RegSP {
				continue
			}
			x := busy(t, nil, in(r), n, 8, 9)
			want := done(t, x)
			want.regs[r] = n
			want.left = 2
			is(t, x, want)
		}
	}
}

func TestOut(t *testing.T) {
	for _, n := range numbers {
		x := busy(t, preset{5: n}, out(5), 8)
		want := done(t, x)
		want.output = []int{77, n}
		is(t, x, want)
	}
	x := busy(t, nil, out(api.RegSP))
	want := done(t, x)
	want.output = []int{77, 16}
	is(t, x, want)
}

func TestAlloc(t *testing.T) {
	for _, n := range []int{0, 1, 5, 11, 12} { // 12 cells are left
		for _, a := range []int{5, 6} { // also into the register that says how many
			x := busy(t, preset{5: n, 6: 99}, alloc(a, 5))
			want := done(t, x)
			want.regs[a] = 4
			want.heap = 4 + n
			for at := 4; at < 4+n; at++ {
				want.cells[at] = cell{}
			}
			is(t, x, want)
		}
	}
}

func TestAllocClearsWhatWasTheStacks(t *testing.T) {
	x := made(t, codeOf(
		addi(api.RegSP, api.RegSP, -9), li(1, 5), st(1, api.RegSP, 0), addi(api.RegSP, api.RegSP, 9),
		li(2, 9), alloc(3, 2), ld(4, 3, 0), out(3), out(4), halt(0),
	), 10)
	endsWith(t, x, api.End{}, 1, 0)
}

// A cell of the stack that went and came again holds 0.
func TestStackThatComesAgain(t *testing.T) {
	x := made(t, codeOf(
		addi(api.RegSP, api.RegSP, -2), li(1, 5), st(1, api.RegSP, 0), st(1, api.RegSP, 1),
		addi(api.RegSP, api.RegSP, 1), addi(api.RegSP, api.RegSP, -1),
		ld(2, api.RegSP, 0), ld(3, api.RegSP, 1), out(2), out(3), halt(0),
	), 10)
	endsWith(t, x, api.End{}, 0, 5)
}

// RegSP, written by each instruction that can write it

// spWrites are those that let RegSP be n, of which ILih has none.
func spWrites(n int) map[string]func(t *testing.T) *Machine {
	sp := api.RegSP
	return map[string]func(t *testing.T) *Machine{
		"li":   func(t *testing.T) *Machine { return busy(t, nil, li(sp, n), 5) },
		"mov":  func(t *testing.T) *Machine { return busy(t, preset{5: n}, mov(sp, 5), 5) },
		"bin":  func(t *testing.T) *Machine { return busy(t, preset{5: n - 3, 6: 3}, bin(api.Add, sp, 5, 6), 5) },
		"in":   func(t *testing.T) *Machine { return busy(t, nil, in(sp), n, 5) },
		"addi": func(t *testing.T) *Machine { return busy(t, nil, addi(sp, sp, n-16), 5) },
		"ld": func(t *testing.T) *Machine {
			code := append(busyLead(), in(5), st(5, 2, 1), ld(sp, 2, 1))
			x := made(t, code, 20, n, 5)
			steps(t, x, len(code)-1)
			return x
		},
	}
}

func TestRegSPIsTheFloor(t *testing.T) {
	for _, n := range []int{4, 5, 15, 16, 17, 19, 20} { // from the heap's end to the number of cells
		for name, begin := range spWrites(n) {
			x := begin(t)
			want := done(t, x)
			want.regs[api.RegSP] = n
			want.floor = n
			if name == "in" {
				want.left--
			}
			if name == "ld" {
				want.loads++
			}
			for at := 4; at < 20; at++ {
				if at < n {
					want.cells[at] = cell{err: api.ErrAddr}
				} else if at < 16 {
					want.cells[at] = cell{}
				}
			}
			t.Run(name, func(t *testing.T) { is(t, x, want) })
		}
	}
}

func TestRegSPWhereNoFloorIs(t *testing.T) {
	for _, n := range []int{3, 2, 1, 0, -1, api.MinImm + 16, 21, 22, api.MaxCells, api.MaxImm} {
		for name, begin := range spWrites(n) {
			t.Run(name, func(t *testing.T) { fails(t, begin(t), api.ErrStack) })
		}
	}
	for _, n := range []int{api.MinInt, -1<<32 + 16, 1<<32 + 16, api.MaxInt} { // what only registers and cells hold
		for _, name := range []string{"mov", "bin", "in", "ld"} {
			t.Run(name, func(t *testing.T) { fails(t, spWrites(n)[name](t), api.ErrStack) })
		}
	}
}

// RegSP times 2^32 is above all cells, whatever RegSP is.
func TestLihOfRegSP(t *testing.T) {
	for _, imm := range []int{api.MinImm, -1, 0, 4, 16, 20, api.MaxImm} {
		fails(t, busy(t, nil, lih(api.RegSP, imm)), api.ErrStack)
	}
	for _, cells := range []int{1, 2, api.MaxCells} {
		x := made(t, codeOf(lih(api.RegSP, 0)), cells)
		endsWith(t, x, api.End{Err: api.ErrStack})
		if x.Regs()[api.RegSP] != cells || x.Place() != 0 {
			t.Errorf("%d cells: %v, place %d", cells, x.Regs(), x.Place())
		}
	}
}

// What is allocated for RegSP lies below the heap's end that it makes, but for no cells at all.
func TestAllocOfRegSP(t *testing.T) {
	x := busy(t, preset{5: 0}, alloc(api.RegSP, 5))
	want := done(t, x)
	want.regs[api.RegSP], want.floor = 4, 4
	for at := 4; at < 16; at++ {
		want.cells[at] = cell{}
	}
	is(t, x, want)
	for _, n := range []int{1, 2, 11, 12} {
		x := busy(t, preset{5: n}, alloc(api.RegSP, 5), 8)
		want := done(t, x)
		want.place--
		want.end, want.ended = api.End{Err: api.ErrStack}, true
		want.heap = 4 + n
		for at := 4; at < 4+n; at++ {
			want.cells[at] = cell{}
		}
		is(t, x, want)
	}
	for n, err := range map[int]api.Errno{-1: api.ErrArg, api.MinInt: api.ErrArg, 13: api.ErrMemory, api.MaxInt: api.ErrMemory} {
		fails(t, busy(t, preset{5: n}, alloc(api.RegSP, 5), 8), err) // the heap has not grown
	}
}

// What ends a machine with an error

// fails makes a step, which has to end x with that error, and to change nothing else.
func fails(t *testing.T, x *Machine, err api.Errno) {
	t.Helper()
	want := stateOf(x)
	if want.ended {
		t.Fatal("the machine ended too soon")
	}
	if !x.Step() {
		t.Error("Step made no step")
	}
	want.end, want.ended = api.End{Err: err}, true
	is(t, x, want)
	if x.Step() {
		t.Error("a machine that ended made a step")
	}
	is(t, x, want)
}

// nowhere are places and sums at which a machine of 20 cells, with 4 and 16 as its heap's end and floor, has no cell.
var nowhere = []struct{ b, imm int }{
	{0, 0}, {1, -1}, {0, -1}, {4, 0}, {3, 1}, {15, 0}, {16, -1}, {20, 0}, {19, 1}, {21, 0}, {api.MaxCells, 0},
	{api.MaxInt, 0}, {api.MaxInt, 1}, {api.MaxInt, api.MaxImm}, {api.MinInt, 0}, {api.MinInt, -1}, {api.MinInt, api.MinImm},
	{1<<32 + 1, 0}, {-1<<32 + 1, 0}, {1 << 32, 1}, {0, api.MaxImm}, {0, api.MinImm},
}

func TestCellsThatAreNotThere(t *testing.T) {
	for _, l := range nowhere {
		for _, a := range []int{5, 6, api.RegSP, api.RegLink} {
			fails(t, busy(t, preset{5: l.b}, ld(a, 5, l.imm), 8), api.ErrAddr)
			fails(t, busy(t, preset{5: l.b}, st(a, 5, l.imm), 8), api.ErrAddr)
		}
	}
	for _, i := range codeOf(ld(1, api.RegSP, 0), st(1, api.RegSP, 0), ld(1, api.RegSP, -1), ld(1, 2, 1), st(1, 2, 1)) {
		fails(t, made(t, codeOf(i), 1), api.ErrAddr) // of one cell none is ever there
	}
}

func TestDivisionByNought(t *testing.T) {
	for _, a := range []int{5, 6, 7, api.RegSP, api.RegLink} {
		for _, b := range []int{api.MinInt, -1, 0, 1, 16, api.MaxInt} {
			for _, op := range []int{api.Div, api.Rem} {
				fails(t, busy(t, preset{5: b, 6: 0}, bin(op, a, 5, 6), 8), api.ErrDivide)
			}
			for _, op := range []int{api.Shl, api.Shr} {
				fails(t, busy(t, preset{5: b, 6: -1}, bin(op, a, 5, 6), 8), api.ErrDivide)
				fails(t, busy(t, preset{5: b, 6: api.MinInt}, bin(op, a, 5, 6), 8), api.ErrDivide)
			}
		}
	}
}

func TestMoreCellsThanThereAre(t *testing.T) {
	for _, a := range []int{5, 6, api.RegLink} {
		for _, n := range []int{13, 14, 20, api.MaxCells, api.MaxInt - 4, api.MaxInt - 3, api.MaxInt, 1<<32 + 1} {
			fails(t, busy(t, preset{5: n}, alloc(a, 5), 8), api.ErrMemory)
		}
		for _, n := range []int{-1, -2, api.MinInt, -1<<32 + 1} {
			fails(t, busy(t, preset{5: n}, alloc(a, 5), 8), api.ErrArg)
		}
	}
	fails(t, made(t, codeOf(alloc(1, api.RegSP)), 1), api.ErrMemory)
}

func TestInputThatIsUsedUp(t *testing.T) {
	for r := range api.Registers {
		fails(t, busy(t, nil, in(r)), api.ErrInput)
		fails(t, made(t, codeOf(in(r)), 1), api.ErrInput)
	}
}

// placed answers a machine of 3 instructions that stands at that place.
func placed(t *testing.T, place int) *Machine {
	x := made(t, codeOf(in(api.RegLink), ret(), halt(0)), 5, place, 8)
	steps(t, x, 2)
	if x.Place() != place {
		t.Fatalf("place %d; want %d", x.Place(), place)
	}
	return x
}

func TestPlacesOfNoInstruction(t *testing.T) {
	for _, place := range []int{3, 4, api.MaxCode, api.MaxCode + 1, 1 << 32, 1<<32 + 2, api.MaxInt, -1, -2, -1<<32 + 2, api.MinInt} {
		fails(t, placed(t, place), api.ErrCode)
	}
	endsWith(t, placed(t, 2), api.End{})
	x := made(t, codeOf(li(1, 5)), 5) // one behind the last instruction, come to by no jump
	steps(t, x, 1)
	fails(t, x, api.ErrCode)
	for _, i := range codeOf(jmp(1), jmp(api.MaxImm), jz(3, 1), call(1), call(api.MaxImm)) {
		x := made(t, codeOf(i), 5)
		steps(t, x, 1)
		fails(t, x, api.ErrCode)
	}
}

// P4.2

// Loads and Stores count what was done, and nothing else counts as one.
func TestLoadsAndStores(t *testing.T) {
	x := made(t, codeOf(
		li(1, 2), alloc(2, 1), st(1, 2, 0), st(1, 2, 1), ld(3, 2, 0), st(3, 2, 1), ld(3, 2, 1), ld(3, 2, 1), ld(3, 2, 1), ld(3, 2, 2),
	), 9)
	for i, want := range [][2]int{{0, 0}, {0, 0}, {0, 1}, {0, 2}, {1, 2}, {1, 3}, {2, 3}, {3, 3}, {4, 3}, {4, 3}} {
		x.Step()
		if x.Loads() != want[0] || x.Stores() != want[1] {
			t.Errorf("step %d: %d loads, %d stores; want %v", i, x.Loads(), x.Stores(), want)
		}
	}
	endsWith(t, x, api.End{Err: api.ErrAddr})
}

// A load for RegSP that SetFloor refuses is none that was done.
func TestLoadsThatSetFloorEnds(t *testing.T) {
	x := made(t, codeOf(li(1, 2), alloc(2, 1), ld(api.RegSP, 2, 0)), 9)
	endsWith(t, x, api.End{Err: api.ErrStack})
	if x.Loads() != 0 || x.Regs()[api.RegSP] != 9 || x.Place() != 2 {
		t.Errorf("%d loads, %v, place %d", x.Loads(), x.Regs(), x.Place())
	}
}

func TestAskingChangesNothing(t *testing.T) {
	x := busy(t, nil, halt(0), 1, 2)
	first := stateOf(x)
	for range 3 {
		is(t, x, first)
	}
}

// Programs

// factorial reads n, and prints what a function that calls itself makes of it.
func factorial() []api.Inst {
	sp, link := api.RegSP, api.RegLink
	return codeOf(
		in(4), call(4), out(4), halt(0),
		jz(4, 13), // of n in r4
		addi(sp, sp, -2), st(link, sp, 0), st(4, sp, 1), addi(4, 4, -1), call(4),
		ld(5, sp, 1), bin(api.Mul, 4, 4, 5), jmp(15),
		li(4, 1), ret(),
		ld(link, sp, 0), addi(sp, sp, 2), ret(),
	)
}

func TestCallsInOneAnother(t *testing.T) {
	for n, want := range []int{1, 1, 2, 6, 24, 120, 720} {
		x := made(t, factorial(), 20, n)
		endsWith(t, x, api.End{}, want)
		if x.Regs()[api.RegSP] != 20 || x.Loads() != 2*n || x.Stores() != 2*n {
			t.Errorf("%d: %v, %d loads, %d stores", n, x.Regs(), x.Loads(), x.Stores())
		}
	}
	endsWith(t, made(t, factorial(), 20, 10), api.End{Err: api.ErrStack}) // which needs 20 cells beside cell 0
	endsWith(t, made(t, factorial(), 21, 10), api.End{}, 3628800)
}

// turnRound reads how many, then so many numbers, keeps them on the heap, and prints them from the last one on.
func turnRound() []api.Inst {
	return codeOf(
		in(1), alloc(2, 1), mov(3, 2), bin(api.Add, 4, 2, 1),
		bin(api.Lt, 5, 3, 4), jz(5, 10), in(6), st(6, 3, 0), addi(3, 3, 1), jmp(4),
		bin(api.Lt, 5, 2, 3), jz(5, 16), addi(3, 3, -1), ld(6, 3, 0), out(6), jmp(10),
		halt(1),
	)
}

func TestLoop(t *testing.T) {
	endsWith(t, made(t, turnRound(), 10, 4, 10, -20, api.MaxInt, api.MinInt, 99), api.End{Code: 1}, api.MinInt, api.MaxInt, -20, 10)
	endsWith(t, made(t, turnRound(), 10, 0), api.End{Code: 1})
	endsWith(t, made(t, turnRound(), 10, 9, 1, 2, 3, 4, 5, 6, 7, 8, 9), api.End{Code: 1}, 9, 8, 7, 6, 5, 4, 3, 2, 1)
	endsWith(t, made(t, turnRound(), 10, 10, 1), api.End{Err: api.ErrMemory})
	endsWith(t, made(t, turnRound(), 10, 3, 1, 2), api.End{Err: api.ErrInput})
	endsWith(t, made(t, turnRound(), 10, -1), api.End{Err: api.ErrArg})
}

func TestManySteps(t *testing.T) {
	x := made(t, codeOf(in(1), jz(1, 5), out(1), addi(1, 1, -1), jmp(1), halt(0)), 1, 100000)
	if n := x.Run(api.MaxInt); n != 4*100000+3 {
		t.Errorf("%d steps", n)
	}
	l := x.Output()
	if len(l) != 100000 || l[0] != 100000 || l[99999] != 1 {
		t.Errorf("%d numbers", len(l))
	}
}

// The examples of the document.
func TestExamples(t *testing.T) {
	endsWith(t, made(t, codeOf(in(1), out(1), halt(0)), 20, 7), api.End{}, 7)
	endsWith(t, made(t, codeOf(in(1)), 20), api.End{Err: api.ErrInput})
}

// P4.3

// roomy answers a list like l with spare room that holds mark.
func roomy[T any](l []T, mark T) []T {
	return append(slices.Clone(l), mark, mark, mark, mark)[:len(l)]
}

func TestWhatIsHandedInIsNotChanged(t *testing.T) {
	code, input := roomy(turnRound(), halt(33)), roomy([]int{3, 10, 20, 30}, -7)
	wholeCode, wholeInput := slices.Clone(code[:cap(code)]), slices.Clone(input[:cap(input)])
	x := made(t, code, 10, input...)
	endsWith(t, x, api.End{Code: 1}, 30, 20, 10)
	if !slices.Equal(code[:cap(code)], wholeCode) || !slices.Equal(input[:cap(input)], wholeInput) {
		t.Error("what was handed in has changed")
	}
	New(append(code, api.Inst{Op: 99}), 10, input) // also where there is an error
	New(code, 0, input)
	if !slices.Equal(code[:len(code)], turnRound()) || !slices.Equal(input[:cap(input)], wholeInput) {
		t.Error("what was handed in with an error has changed")
	}
}

func TestWhatIsHandedInIsNotKept(t *testing.T) {
	for begin := range 12 { // changed ahead of the first step, and between two of them
		code, input := roomy(turnRound(), halt(33)), roomy([]int{3, 10, 20, 30}, -7)
		x, err := New(code, 10, input)
		if err != api.OK {
			t.Fatal(err)
		}
		steps(t, x, begin)
		for i := range code[:cap(code)] {
			code[:cap(code)][i] = halt(44)
		}
		for i := range input[:cap(input)] {
			input[:cap(input)][i] = -8
		}
		endsWith(t, x, api.End{Code: 1}, 30, 20, 10)
	}
}

func TestMachinesAreTheirOwn(t *testing.T) {
	code, input := turnRound(), []int{3, 10, 20, 30}
	x, y := made(t, code, 10, input...), made(t, code, 10, input...)
	begin := stateOf(y)
	endsWith(t, x, api.End{Code: 1}, 30, 20, 10)
	is(t, y, begin)
	endsWith(t, y, api.End{Code: 1}, 30, 20, 10)
	if !reflect.DeepEqual(stateOf(x), stateOf(y)) {
		t.Error("two machines of the same ended unlike")
	}
}

// spoil changes a list and all of its spare room.
func spoil(l []int) {
	for i := range l[:cap(l)] {
		l[:cap(l)][i] = -99
	}
}

func TestOutputIsNewMemory(t *testing.T) {
	x := made(t, codeOf(in(1), out(1), jmp(0)), 5, 1, 2, 3, 4, 5, 6, 7)
	want := []int{}
	for n := 1; n <= 7; n++ {
		steps(t, x, 3)
		want = append(want, n)
		one, two := x.Output(), x.Output()
		spoil(one)
		if !slices.Equal(two, want) || !slices.Equal(x.Output(), want) {
			t.Fatalf("what was done with one answer is seen in another: %v, %v", two, x.Output())
		}
	}
	endsWith(t, x, api.End{Err: api.ErrInput}, want...)
}

// What the machine goes on to do is not seen in what was answered before, its spare room included.
func TestOutputStays(t *testing.T) {
	x := made(t, codeOf(in(1), out(1), jmp(0)), 5, 1, 2, 3, 4, 5, 6, 7, 8, 9)
	var answers, wants [][]int
	for range 9 {
		l := x.Output()
		answers = append(answers, l)
		wants = append(wants, slices.Clone(l[:cap(l)]))
		steps(t, x, 3)
	}
	for i, l := range answers {
		if len(l) != i || !slices.Equal(l[:cap(l)], wants[i]) {
			t.Errorf("answer %d is %v now; was %v", i, l, wants[i])
		}
	}
}

func TestRegsAreNewMemory(t *testing.T) {
	x := made(t, codeOf(addi(1, 1, 5), out(1), jmp(0)), 5)
	before := x.Regs()
	steps(t, x, 1)
	if before != ([16]int{api.RegSP: 5}) {
		t.Errorf("what was answered has changed: %v", before)
	}
	after := x.Regs()
	after[1], after[api.RegSP] = 99, 99
	if x.Regs() != ([16]int{1: 5, api.RegSP: 5}) {
		t.Errorf("what was done with the answer is seen: %v", x.Regs())
	}
}

// A model by the document's words

// model does what is to be done as far as it goes, and takes all of it back where an error comes of it.
type model struct {
	code                 []api.Inst
	mem                  *memory.Memory
	regs                 [16]int
	place, loads, stores int
	in, out              []int
	end                  api.End
	ended                bool
}

func newModel(code []api.Inst, cells int, input []int) *model {
	mem, _ := memory.New(cells)
	return &model{code: code, mem: mem, regs: [16]int{api.RegSP: cells}, in: slices.Clone(input), out: []int{}}
}

func (m *model) step() {
	before := *m
	before.mem, before.out = m.mem.Copy(), slices.Clone(m.out)
	err := api.ErrCode
	if m.place >= 0 && m.place < len(m.code) {
		err = m.do(m.code[m.place])
	}
	if err == api.OK {
		return
	}
	if m.mem.Heap() > before.mem.Heap() { // all is as before, but for a heap that has grown
		before.mem.Alloc(m.mem.Heap() - before.mem.Heap())
	}
	*m = before
	m.end, m.ended = api.End{Err: err}, true
}

func (m *model) do(i api.Inst) api.Errno {
	old, next := m.regs, m.place+1
	a, b, c, err := &m.regs[i.A], old[i.B], old[i.C], api.OK
	switch i.Op {
	case api.IHalt:
		m.end, m.ended = api.End{Code: i.Imm}, true
		next = m.place
	case api.ILi:
		*a = i.Imm
	case api.ILih:
		*a = *a*(1<<32) + int(uint32(i.Imm))
	case api.IMov:
		*a = b
	case api.IAddi:
		*a = b + i.Imm
	case api.IBin:
		*a, err = word.Do(i.Imm, b, c)
	case api.ILd:
		*a, err = m.mem.Load(b + i.Imm)
		m.loads++
	case api.ISt:
		err = m.mem.Store(b+i.Imm, *a)
		m.stores++
	case api.IJmp:
		next = i.Imm
	case api.IJz:
		if *a == 0 {
			next = i.Imm
		}
	case api.ICall:
		m.regs[api.RegLink] = next
		next = i.Imm
	case api.IRet:
		next = m.regs[api.RegLink]
	case api.IIn:
		if len(m.in) == 0 {
			return api.ErrInput
		}
		*a, m.in = m.in[0], m.in[1:]
	case api.IOut:
		m.out = append(m.out, *a)
	case api.IAlloc:
		*a, err = m.mem.Alloc(b)
	}
	if err == api.OK && m.regs[api.RegSP] != old[api.RegSP] {
		err = m.mem.SetFloor(m.regs[api.RegSP])
	}
	m.place = next
	return err
}

func (m *model) state() state {
	return state{
		regs: m.regs, place: m.place, left: len(m.in), loads: m.loads, stores: m.stores,
		end: m.end, ended: m.ended, output: append([]int{}, m.out...),
		heap: m.mem.Heap(), floor: m.mem.Floor(), cells: cellsOf(m.mem),
	}
}

// dice is a row of numbers that look like chance, the same at each run.
type dice uint64

func (d *dice) below(n int) int {
	*d = *d*6364136223846793005 + 1442695040888963407
	return int(uint64(*d)>>33) % n
}

// register favours a few, RegSP and RegLink among them, so that instructions have to do with each other.
func (d *dice) register() int {
	return []int{0, 1, 2, 3, 4, api.RegSP, api.RegLink}[d.below(7)]
}

// inst answers an instruction for code of n of them, with places and cells near what is there.
func (d *dice) inst(n int) api.Inst {
	small := d.below(9) - 3
	a, b, c := d.register(), d.register(), d.register()
	switch d.below(20) {
	case 0:
		return li(a, small)
	case 1:
		return lih(1+d.below(4), small)
	case 2:
		return mov(a, b)
	case 3, 4:
		return bin(1+d.below(14), 1+d.below(4), b, c)
	case 5, 6, 7:
		return ld(1+d.below(4), b, small)
	case 8, 9, 10:
		return st(a, b, small)
	case 11:
		return jmp(d.below(n + 2))
	case 12:
		return jz(a, d.below(n+2))
	case 13:
		return call(d.below(n + 1))
	case 14:
		return []api.Inst{ret(), halt(small), bin(1+d.below(14), a, b, c), lih(a, small), ld(a, b, small)}[d.below(5)]
	case 15:
		return in(a)
	case 16, 17:
		return out(a)
	case 18:
		return alloc(d.below(5), b)
	}
	return addi(a, b, small)
}

// program answers code, cells and input.
func (d *dice) program() ([]api.Inst, int, []int) {
	n := 1 + d.below(25)
	code := codeOf(li(1, 2), alloc(2, 1), addi(api.RegSP, api.RegSP, -3)) // so that there are cells at all
	for range n {
		code = append(code, d.inst(n+3))
	}
	var input []int
	for range d.below(6) {
		input = append(input, d.below(12)-2)
	}
	return code, 1 + d.below(20), input
}

func TestManyProgramsAgainstTheModel(t *testing.T) {
	var d dice = 4
	ends := map[api.Errno]int{}
	for round := range 20000 {
		code, cells, input := d.program()
		x, m := made(t, code, cells, input...), newModel(code, cells, input)
		for range 60 {
			is(t, x, m.state())
			if t.Failed() {
				t.Fatalf("in round %d: %v, %d cells, input %v", round, code, cells, input)
			}
			if m.ended {
				ends[m.end.Err]++
				break
			}
			if !x.Step() {
				t.Fatal("Step made no step")
			}
			m.step()
		}
		if x.Step() == m.ended {
			t.Fatalf("Step of a machine that ended: %t", m.ended)
		}
	}
	for _, err := range []api.Errno{
		api.OK, api.ErrArg, api.ErrDivide, api.ErrAddr, api.ErrStack, api.ErrMemory, api.ErrInput, api.ErrCode,
	} {
		if ends[err] < 10 { // else the programs tell too little
			t.Errorf("only %d programs ended with %d", ends[err], err)
		}
	}
}

// P4.4

func TestRunOfBoth(t *testing.T) {
	var d dice = 6
	for round := range 300 {
		code, cells, input := d.program()
		if round == 0 {
			code, cells, input = factorial(), 20, []int{4}
		}
		for n := -1; n < 40; n += 1 + d.below(5) {
			m := d.below(40) - 1
			x, y := made(t, code, cells, input...), made(t, code, cells, input...)
			first := x.Run(n)
			second := x.Run(m)
			both := y.Run(max(n, 0) + max(m, 0))
			if first+second != both {
				t.Errorf("Run(%d) and Run(%d): %d and %d; Run of both: %d", n, m, first, second, both)
			}
			is(t, x, stateOf(y))
		}
	}
}

func TestRunIsManySteps(t *testing.T) {
	var d dice = 7
	for range 300 {
		code, cells, input := d.program()
		x, y := made(t, code, cells, input...), made(t, code, cells, input...)
		n := 0
		for n < 50 && x.Step() {
			n++
		}
		if got := y.Run(50); got != n {
			t.Errorf("Run(50): %d; Step made %d", got, n)
		}
		is(t, x, stateOf(y))
	}
}

func TestTheSameDoTheSame(t *testing.T) {
	run := func() []state {
		var d dice = 8
		var l []state
		for range 300 {
			code, cells, input := d.program()
			x := made(t, code, cells, input...)
			for range 20 {
				x.Run(3)
				l = append(l, stateOf(x))
			}
		}
		return l
	}
	if !reflect.DeepEqual(run(), run()) {
		t.Error("the same code, cells and input did not do the same")
	}
}

// P4.5

func TestOutputGrowsAndInputShrinks(t *testing.T) {
	var d dice = 9
	for range 1000 {
		code, cells, input := d.program()
		x := made(t, code, cells, input...)
		for range 50 {
			left, output := x.Left(), x.Output()
			if !x.Step() {
				break
			}
			now := x.Output()
			if x.Left() > left || x.Left() < left-1 {
				t.Fatalf("left %d, then %d", left, x.Left())
			}
			if len(now) < len(output) || len(now) > len(output)+1 || !slices.Equal(now[:len(output)], output) {
				t.Fatalf("output %v, then %v", output, now)
			}
		}
	}
}

func TestMoreInputDoesNotMatter(t *testing.T) {
	var d dice = 10
	for range 1000 {
		code, cells, input := d.program()
		more := append(slices.Clone(input), 5, -5, api.MaxInt)
		x, y := made(t, code, cells, input...), made(t, code, cells, more...)
		for range 50 {
			want := stateOf(x)
			want.left += 3
			is(t, y, want)
			if t.Failed() {
				t.Fatalf("%v, %d cells, input %v", code, cells, input)
			}
			if !x.Step() {
				break
			}
			if end, _ := x.End(); end.Err == api.ErrInput { // from here on it would be read
				break
			}
			y.Step()
		}
	}
}
