package word

import (
	"math/big"
	"testing"

	"swage/api"
)

// edges are numbers at which wrap-round, signs, shifts and widths turn.
var edges = []int{
	api.MinInt, api.MinInt + 1, -1 << 32, -1<<31 - 1, -1 << 31, -1 << 16, -32769, -32768, -256, -129, -128, -127,
	-65, -64, -63, -8, -7, -3, -2, -1, 0, 1, 2, 3, 7, 8, 31, 32, 62, 63, 64, 65, 127, 128, 200, 255, 256,
	32767, 32768, 65535, 65536, 1<<31 - 1, 1 << 31, 1<<32 - 1, 1 << 32, 1<<40 + 5, 1 << 62, api.MaxInt - 1, api.MaxInt,
}

// unknown are numbers that are no operation.
var unknown = []int{api.MinInt, -14, -1, 0, 15, 16, 255, 256 + api.Add, 1<<32 + api.Add, api.MaxInt}

// do fails the test if there is an error.
func do(t *testing.T, op, a, b int) int {
	t.Helper()
	n, err := Do(op, a, b)
	if err != api.OK {
		t.Fatalf("Do(%d, %d, %d): error %d", op, a, b, err)
	}
	return n
}

// low is x modulo 2^64, as a signed number.
func low(x *big.Int) int {
	mask := new(big.Int).SetUint64(1<<64 - 1)
	return int(new(big.Int).And(x, mask).Uint64())
}

func truth(holds bool) int {
	if holds {
		return 1
	}
	return 0
}

// P1.1

func TestKnown(t *testing.T) {
	for op := 1; op <= 14; op++ {
		if !Known(op) {
			t.Errorf("Known(%d) is false", op)
		}
	}
	for _, op := range unknown {
		if Known(op) {
			t.Errorf("Known(%d) is true", op)
		}
	}
}

func TestDoRefusesWhatIsNoOperation(t *testing.T) {
	for _, op := range unknown {
		for _, b := range []int{-1, 0, 1} { // ErrArg, also where a division or a shift would be refused
			if n, err := Do(op, 5, b); n != 0 || err != api.ErrArg {
				t.Errorf("Do(%d, 5, %d): %d, error %d", op, b, n, err)
			}
		}
	}
}

func TestDoTable(t *testing.T) {
	for _, x := range []struct{ op, a, b, want int }{
		{api.Add, 2, 3, 5},
		{api.Add, api.MaxInt, 1, api.MinInt},
		{api.Add, api.MinInt, -1, api.MaxInt},
		{api.Sub, 2, 3, -1},
		{api.Sub, api.MinInt, 1, api.MaxInt},
		{api.Sub, 0, api.MinInt, api.MinInt},
		{api.Mul, -6, 7, -42},
		{api.Mul, api.MaxInt, 2, -2},
		{api.Mul, api.MinInt, -1, api.MinInt},
		{api.Mul, 1 << 32, 1 << 32, 0},
		{api.Div, 7, 2, 3},
		{api.Div, -7, 2, -3},
		{api.Div, 7, -2, -3},
		{api.Div, -7, -2, 3},
		{api.Div, 0, 5, 0},
		{api.Div, api.MinInt, -1, api.MinInt},
		{api.Div, api.MinInt, 1, api.MinInt},
		{api.Div, api.MaxInt, -1, -api.MaxInt},
		{api.Rem, 7, 2, 1},
		{api.Rem, -7, 2, -1},
		{api.Rem, 7, -2, 1},
		{api.Rem, -7, -2, -1},
		{api.Rem, api.MinInt, -1, 0},
		{api.Rem, api.MinInt, api.MaxInt, -1},
		{api.And, 6, 3, 2},
		{api.And, -1, api.MinInt, api.MinInt},
		{api.Or, 6, 3, 7},
		{api.Or, api.MinInt, api.MaxInt, -1},
		{api.Xor, 6, 3, 5},
		{api.Xor, -1, api.MaxInt, api.MinInt},
		{api.Lt, 2, 3, 1},
		{api.Lt, 3, 3, 0},
		{api.Lt, 4, 3, 0},
		{api.Lt, api.MinInt, api.MaxInt, 1},
		{api.Le, 2, 3, 1},
		{api.Le, 3, 3, 1},
		{api.Le, 4, 3, 0},
		{api.Le, api.MaxInt, api.MinInt, 0},
		{api.Eq, 3, 3, 1},
		{api.Eq, 3, 4, 0},
		{api.Eq, 1 << 32, 0, 0},
		{api.Ne, 3, 3, 0},
		{api.Ne, 3, 4, 1},
		{api.Ne, api.MinInt, api.MaxInt, 1},
	} {
		if n, err := Do(x.op, x.a, x.b); n != x.want || err != api.OK {
			t.Errorf("Do(%d, %d, %d): %d, error %d; want %d", x.op, x.a, x.b, n, err, x.want)
		}
	}
}

func TestDivideByNought(t *testing.T) {
	for _, op := range []int{api.Div, api.Rem} {
		for _, a := range edges {
			if n, err := Do(op, a, 0); n != 0 || err != api.ErrDivide {
				t.Errorf("Do(%d, %d, 0): %d, error %d", op, a, n, err)
			}
		}
	}
}

func TestShift(t *testing.T) {
	for _, x := range []struct{ op, a, b, want int }{
		{api.Shl, 1, 0, 1},
		{api.Shl, 1, 3, 8},
		{api.Shl, -3, 1, -6},
		{api.Shl, 1, 63, api.MinInt},
		{api.Shl, 3, 63, api.MinInt},
		{api.Shl, api.MaxInt, 1, -2},
		{api.Shl, 1, 64, 0},
		{api.Shl, -1, 64, 0},
		{api.Shl, -1, 65, 0},
		{api.Shl, 1, 256, 0},
		{api.Shl, 1, 1 << 32, 0},
		{api.Shl, -1, api.MaxInt, 0},
		{api.Shr, -8, 0, -8},
		{api.Shr, 9, 1, 4},
		{api.Shr, -9, 1, -5},
		{api.Shr, api.MinInt, 62, -2},
		{api.Shr, api.MinInt, 63, -1},
		{api.Shr, api.MaxInt, 62, 1},
		{api.Shr, api.MaxInt, 63, 0},
		{api.Shr, api.MaxInt, 64, 0},
		{api.Shr, api.MinInt, 64, -1},
		{api.Shr, -1, 70, -1},
		{api.Shr, 0, 70, 0},
		{api.Shr, 5, 256, 0},
		{api.Shr, -5, 1 << 32, -1},
		{api.Shr, 5, api.MaxInt, 0},
		{api.Shr, -5, api.MaxInt, -1},
	} {
		if n, err := Do(x.op, x.a, x.b); n != x.want || err != api.OK {
			t.Errorf("Do(%d, %d, %d): %d, error %d; want %d", x.op, x.a, x.b, n, err, x.want)
		}
	}
}

func TestShiftBelowNought(t *testing.T) {
	for _, op := range []int{api.Shl, api.Shr} {
		for _, a := range edges {
			for _, b := range []int{-1, -2, -64, -1 << 32, api.MinInt} {
				if n, err := Do(op, a, b); n != 0 || err != api.ErrDivide {
					t.Errorf("Do(%d, %d, %d): %d, error %d", op, a, b, n, err)
				}
			}
		}
	}
}

// whole reckons op with numbers of any width, apart from shifts and divisions that are refused.
func whole(op int, x, y *big.Int) int {
	z := new(big.Int)
	switch op {
	case api.Add:
		return low(z.Add(x, y))
	case api.Sub:
		return low(z.Sub(x, y))
	case api.Mul:
		return low(z.Mul(x, y))
	case api.Div:
		return low(z.Quo(x, y))
	case api.Rem:
		return low(z.Rem(x, y))
	case api.And:
		return low(z.And(x, y))
	case api.Or:
		return low(z.Or(x, y))
	case api.Xor:
		return low(z.Xor(x, y))
	case api.Shl:
		return low(z.Lsh(x, uint(min(y.Int64(), 64))))
	case api.Shr:
		return low(z.Rsh(x, uint(min(y.Int64(), 64))))
	case api.Lt:
		return truth(x.Cmp(y) < 0)
	case api.Le:
		return truth(x.Cmp(y) <= 0)
	case api.Eq:
		return truth(x.Cmp(y) == 0)
	}
	return truth(x.Cmp(y) != 0)
}

func refused(op, b int) bool {
	switch op {
	case api.Div, api.Rem:
		return b == 0
	case api.Shl, api.Shr:
		return b < 0
	}
	return false
}

func TestDoAgainstWiderNumbers(t *testing.T) {
	for op := api.Add; op <= api.Ne; op++ {
		for _, a := range edges {
			for _, b := range edges {
				if refused(op, b) {
					continue
				}
				want := whole(op, big.NewInt(int64(a)), big.NewInt(int64(b)))
				if n, err := Do(op, a, b); n != want || err != api.OK {
					t.Errorf("Do(%d, %d, %d): %d, error %d; want %d", op, a, b, n, err, want)
				}
			}
		}
	}
}

// P1.2

func TestWrapTable(t *testing.T) {
	for _, x := range []struct {
		n, bits int
		signed  bool
		want    int
	}{
		{200, 8, true, -56}, {200, 8, false, 200},
		{127, 8, true, 127}, {128, 8, true, -128}, {-128, 8, true, -128}, {-129, 8, true, 127},
		{255, 8, false, 255}, {256, 8, false, 0}, {-1, 8, false, 255}, {-256, 8, false, 0}, {255, 8, true, -1},
		{32767, 16, true, 32767}, {32768, 16, true, -32768}, {-32768, 16, true, -32768}, {-32769, 16, true, 32767},
		{65535, 16, false, 65535}, {65536, 16, false, 0}, {-1, 16, false, 65535}, {65535, 16, true, -1},
		{1<<31 - 1, 32, true, 1<<31 - 1}, {1 << 31, 32, true, -1 << 31}, {-1 << 31, 32, true, -1 << 31},
		{-1<<31 - 1, 32, true, 1<<31 - 1}, {1 << 40, 32, true, 0}, {1<<32 - 1, 32, true, -1},
		{1<<32 - 1, 32, false, 1<<32 - 1}, {1 << 32, 32, false, 0}, {-1, 32, false, 1<<32 - 1},
		{api.MinInt, 8, false, 0}, {api.MinInt, 32, true, 0}, {api.MaxInt, 32, true, -1}, {api.MaxInt, 32, false, 1<<32 - 1},
	} {
		if n := Wrap(x.n, x.bits, x.signed); n != x.want {
			t.Errorf("Wrap(%d, %d, %t): %d; want %d", x.n, x.bits, x.signed, n, x.want)
		}
	}
}

func TestWrapLiesInItsWidthAndIsLikeN(t *testing.T) {
	for _, bits := range []int{8, 16, 32} {
		for _, n := range edges {
			size := 1 << bits
			plain, signed := Wrap(n, bits, false), Wrap(n, bits, true)
			if plain < 0 || plain >= size || (n-plain)%size != 0 {
				t.Errorf("Wrap(%d, %d, false): %d", n, bits, plain)
			}
			if signed < -size/2 || signed >= size/2 || (n-signed)%size != 0 {
				t.Errorf("Wrap(%d, %d, true): %d", n, bits, signed)
			}
		}
	}
}

func TestWrapOfOtherBits(t *testing.T) {
	for _, bits := range []int{api.MinInt, -32, -8, -1, 0, 1, 7, 9, 15, 17, 24, 31, 33, 63, 64, 65, 128, 256 + 8, 1<<32 + 8, api.MaxInt} {
		for _, n := range edges {
			for _, signed := range []bool{false, true} {
				if got := Wrap(n, bits, signed); got != n {
					t.Errorf("Wrap(%d, %d, %t): %d", n, bits, signed, got)
				}
				if !Fits(n, bits, signed) {
					t.Errorf("Fits(%d, %d, %t) is false", n, bits, signed)
				}
			}
		}
	}
}

func TestFits(t *testing.T) {
	for _, bits := range []int{8, 16, 32} {
		size := 1 << bits
		for _, n := range edges {
			if got, want := Fits(n, bits, false), 0 <= n && n < size; got != want {
				t.Errorf("Fits(%d, %d, false): %t", n, bits, got)
			}
			if got, want := Fits(n, bits, true), -size/2 <= n && n < size/2; got != want {
				t.Errorf("Fits(%d, %d, true): %t", n, bits, got)
			}
		}
	}
}

// P1.3

func TestTurned(t *testing.T) {
	turns := map[int]bool{api.Add: true, api.Mul: true, api.And: true, api.Or: true, api.Xor: true, api.Eq: true, api.Ne: true}
	for op := api.Add; op <= api.Ne; op++ {
		got, is := Turned(op)
		if is != turns[op] || is && got != op || !is && got != 0 {
			t.Errorf("Turned(%d): %d, %t", op, got, is)
		}
	}
	for _, op := range unknown {
		if got, is := Turned(op); got != 0 || is {
			t.Errorf("Turned(%d): %d, %t", op, got, is)
		}
	}
}

func TestTurnedDoesTheSame(t *testing.T) {
	for op := api.Add; op <= api.Ne; op++ {
		turned, is := Turned(op)
		if !is {
			continue
		}
		for _, a := range edges {
			for _, b := range edges {
				if x, y := do(t, op, a, b), do(t, turned, b, a); x != y {
					t.Errorf("operation %d of %d, %d: %d; turned %d: %d", op, a, b, x, turned, y)
				}
			}
		}
	}
}

func TestFold(t *testing.T) {
	want := map[int]int{api.Sub: 0, api.Xor: 0, api.Lt: 0, api.Ne: 0, api.Le: 1, api.Eq: 1}
	for op := api.Add; op <= api.Ne; op++ {
		n, known := want[op]
		for _, a := range edges {
			if got, is := Fold(op, a); got != n || is != known {
				t.Errorf("Fold(%d, %d): %d, %t", op, a, got, is)
			}
			if known && do(t, op, a, a) != n {
				t.Errorf("Do(%d, %d, %d) is not %d", op, a, a, n)
			}
		}
	}
	for _, op := range unknown {
		if got, is := Fold(op, 3); got != 0 || is {
			t.Errorf("Fold(%d, 3): %d, %t", op, got, is)
		}
	}
}

// P1.4

func TestThreeInAnyOrder(t *testing.T) {
	for _, op := range []int{api.Add, api.Mul} {
		for _, a := range edges {
			for _, b := range edges {
				for _, c := range edges {
					want := do(t, op, do(t, op, a, b), c)
					if do(t, op, a, do(t, op, b, c)) != want || do(t, op, do(t, op, c, a), b) != want || do(t, op, c, do(t, op, b, a)) != want {
						t.Fatalf("operation %d hangs on the order of %d, %d, %d", op, a, b, c)
					}
				}
			}
		}
	}
}

func TestDivAndRemMakeItAgain(t *testing.T) {
	for _, a := range edges {
		for _, b := range edges {
			if b == 0 {
				continue
			}
			back := do(t, api.Mul, do(t, api.Div, a, b), b)
			if n := do(t, api.Add, back, do(t, api.Rem, a, b)); n != a {
				t.Errorf("%d by %d comes back as %d", a, b, n)
			}
		}
	}
}

func TestWrapTwice(t *testing.T) {
	for _, bits := range []int{-1, 0, 8, 9, 16, 32, 64} {
		for _, n := range edges {
			for _, signed := range []bool{false, true} {
				once := Wrap(n, bits, signed)
				if twice := Wrap(once, bits, signed); twice != once {
					t.Errorf("Wrap(%d, %d, %t): %d, then %d", n, bits, signed, once, twice)
				}
			}
		}
	}
}

// P1.5

func TestJustOneOfLessLikeGreater(t *testing.T) {
	for _, a := range edges {
		for _, b := range edges {
			less, like, greater := do(t, api.Lt, a, b), do(t, api.Eq, a, b), do(t, api.Lt, b, a)
			if less+like+greater != 1 {
				t.Errorf("%d, %d: less %d, like %d, greater %d", a, b, less, like, greater)
			}
			if do(t, api.Le, a, b) != less+like || do(t, api.Ne, a, b) != less+greater {
				t.Errorf("%d, %d: Le or Ne", a, b)
			}
		}
	}
}
