package inst

import (
	"bytes"
	"slices"
	"strconv"
	"strings"
	"testing"

	"swage/api"
)

// rule is a row of the document's table: the text has ra, rb, rc and imm where the fields stand, and least to most is what imm may be.
type rule struct {
	op          int
	text        string
	least, most int
}

var rules = []rule{
	{api.IHalt, "halt imm", api.MinImm, api.MaxImm},
	{api.ILi, "li ra imm", api.MinImm, api.MaxImm},
	{api.ILih, "lih ra imm", api.MinImm, api.MaxImm},
	{api.IMov, "mov ra rb", 0, 0},
	{api.IBin, "bin.imm ra rb rc", 1, 14},
	{api.ILd, "ld ra rb imm", api.MinImm, api.MaxImm},
	{api.ISt, "st ra rb imm", api.MinImm, api.MaxImm},
	{api.IJmp, "jmp imm", 0, api.MaxImm},
	{api.IJz, "jz ra imm", 0, api.MaxImm},
	{api.ICall, "call imm", 0, api.MaxImm},
	{api.IRet, "ret", 0, 0},
	{api.IIn, "in ra", 0, 0},
	{api.IOut, "out ra", 0, 0},
	{api.IAlloc, "alloc ra rb", 0, 0},
	{api.IAddi, "addi ra rb imm", api.MinImm, api.MaxImm},
}

// ops are numbers at which instructions begin and end, and such as would come to one if bits were lost.
var ops = []int{
	api.MinInt, -256, -1, 0, 1, 2, 3, 4, 5, 6, 7, 8, 9, 10, 11, 12, 13, 14, 15, 16, 255, 256, 256 + api.ILi, 1<<32 + api.IMov, api.MaxInt,
}

var registers = []int{api.MinInt, -16, -1, 0, 1, 7, 14, 15, 16, 17, 255, 256, 256 + 3, 1<<32 + 3, api.MaxInt}

var imms = []int{
	api.MinInt, -1 << 32, api.MinImm - 1, api.MinImm, api.MinImm + 1, -65536, -257, -256, -255, -2, -1,
	0, 1, 2, 13, 14, 15, 127, 128, 255, 256, 65535, 65536, 1 << 24, api.MaxImm - 1, api.MaxImm, api.MaxImm + 1,
	1<<32 - 1, 1 << 32, 1<<32 + 5, api.MaxInt,
}

// ruleOf is the row of op; nil, if there is none.
func ruleOf(op int) *rule {
	for i := range rules {
		if rules[i].op == op {
			return &rules[i]
		}
	}
	return nil
}

func (r *rule) names(field string) bool { return strings.Contains(r.text, field) }

// right says by the table whether x is right.
func right(x api.Inst) bool {
	r := ruleOf(x.Op)
	if r == nil || x.Imm < r.least || x.Imm > r.most {
		return false
	}
	for field, n := range map[string]int{"ra": x.A, "rb": x.B, "rc": x.C} {
		if r.names(field) && (n < 0 || n > 15) || !r.names(field) && n != 0 {
			return false
		}
	}
	return true
}

// all hands every instruction of the edges above to f.
func all(f func(x api.Inst)) {
	for _, op := range ops {
		for _, a := range registers {
			for _, b := range registers {
				for _, c := range registers {
					for _, imm := range imms {
						f(api.Inst{Op: op, A: a, B: b, C: c, Imm: imm})
					}
				}
			}
		}
	}
}

// allRight are those that are right among them.
func allRight() []api.Inst {
	var l []api.Inst
	all(func(x api.Inst) {
		if right(x) {
			l = append(l, x)
		}
	})
	return l
}

// known are instructions with their bytes and texts, written out by hand: each of the table, with the edges of its fields.
var known = []struct {
	x     api.Inst
	bytes []byte
	text  string
}{
	{api.Inst{Op: api.IHalt}, []byte{0, 0, 0, 0, 0, 0, 0, 0}, "halt 0"},
	{api.Inst{Op: api.IHalt, Imm: -14}, []byte{0, 0, 0, 0, 242, 255, 255, 255}, "halt -14"},
	{api.Inst{Op: api.IHalt, Imm: api.MinImm}, []byte{0, 0, 0, 0, 0, 0, 0, 128}, "halt -2147483648"},
	{api.Inst{Op: api.IHalt, Imm: api.MaxImm}, []byte{0, 0, 0, 0, 255, 255, 255, 127}, "halt 2147483647"},
	{api.Inst{Op: api.ILi, A: 3, Imm: -1}, []byte{1, 48, 0, 0, 255, 255, 255, 255}, "li r3 -1"},
	{api.Inst{Op: api.ILi, A: 15, Imm: 0x01020304}, []byte{1, 240, 0, 0, 4, 3, 2, 1}, "li r15 16909060"},
	{api.Inst{Op: api.ILih, A: 0, Imm: -256}, []byte{2, 0, 0, 0, 0, 255, 255, 255}, "lih r0 -256"},
	{api.Inst{Op: api.IMov, A: 15, B: 0}, []byte{3, 240, 0, 0, 0, 0, 0, 0}, "mov r15 r0"},
	{api.Inst{Op: api.IMov, A: 0, B: 15}, []byte{3, 15, 0, 0, 0, 0, 0, 0}, "mov r0 r15"},
	{api.Inst{Op: api.IBin, A: 1, B: 2, C: 3, Imm: api.Add}, []byte{4, 18, 3, 0, 1, 0, 0, 0}, "bin.1 r1 r2 r3"},
	{api.Inst{Op: api.IBin, A: 15, B: 15, C: 15, Imm: api.Ne}, []byte{4, 255, 15, 0, 14, 0, 0, 0}, "bin.14 r15 r15 r15"},
	{api.Inst{Op: api.ILd, A: 4, B: 14, Imm: 1}, []byte{5, 78, 0, 0, 1, 0, 0, 0}, "ld r4 r14 1"},
	{api.Inst{Op: api.ISt, A: 2, B: 1, Imm: -5}, []byte{6, 33, 0, 0, 251, 255, 255, 255}, "st r2 r1 -5"},
	{api.Inst{Op: api.IJmp, Imm: 0}, []byte{7, 0, 0, 0, 0, 0, 0, 0}, "jmp 0"},
	{api.Inst{Op: api.IJmp, Imm: api.MaxImm}, []byte{7, 0, 0, 0, 255, 255, 255, 127}, "jmp 2147483647"},
	{api.Inst{Op: api.IJz, A: 9, Imm: 300}, []byte{8, 144, 0, 0, 44, 1, 0, 0}, "jz r9 300"},
	{api.Inst{Op: api.ICall, Imm: 65536}, []byte{9, 0, 0, 0, 0, 0, 1, 0}, "call 65536"},
	{api.Inst{Op: api.IRet}, []byte{10, 0, 0, 0, 0, 0, 0, 0}, "ret"},
	{api.Inst{Op: api.IIn, A: 12}, []byte{11, 192, 0, 0, 0, 0, 0, 0}, "in r12"},
	{api.Inst{Op: api.IOut, A: 10}, []byte{12, 160, 0, 0, 0, 0, 0, 0}, "out r10"},
	{api.Inst{Op: api.IAlloc, A: 1, B: 8}, []byte{13, 24, 0, 0, 0, 0, 0, 0}, "alloc r1 r8"},
	{api.Inst{Op: api.IAddi, A: 14, B: 14, Imm: -3}, []byte{14, 238, 0, 0, 253, 255, 255, 255}, "addi r14 r14 -3"},
}

// P2.1

func TestRightAtAllEdges(t *testing.T) {
	all(func(x api.Inst) {
		if got := Right(x); got != right(x) {
			t.Fatalf("Right(%+v): %t", x, got)
		}
	})
}

func TestRightTable(t *testing.T) {
	for _, x := range []api.Inst{
		{Op: -1}, {Op: 15}, {Op: 256}, {Op: 1 << 32}, // no instructions
		{Op: api.IHalt, A: 1}, {Op: api.IHalt, B: 1}, {Op: api.IHalt, C: 1}, // fields that are not named
		{Op: api.ILi, B: 1}, {Op: api.ILih, C: 1}, {Op: api.IMov, Imm: 1}, {Op: api.IMov, C: 1}, {Op: api.ILd, C: 1},
		{Op: api.ISt, C: -1}, {Op: api.IJmp, A: 1}, {Op: api.IJz, B: 1}, {Op: api.ICall, A: 15}, {Op: api.IRet, A: 15},
		{Op: api.IRet, Imm: 1}, {Op: api.IIn, B: 1}, {Op: api.IIn, Imm: -1}, {Op: api.IOut, Imm: 1}, {Op: api.IAlloc, Imm: 1},
		{Op: api.IAlloc, C: 1}, {Op: api.IAddi, C: 1},
		{Op: api.ILi, A: 16}, {Op: api.ILi, A: -1}, {Op: api.IMov, B: 16}, {Op: api.IMov, B: -1}, // registers
		{Op: api.IBin, C: 16, Imm: 1}, {Op: api.IBin, C: -1, Imm: 1},
		{Op: api.IBin}, {Op: api.IBin, Imm: 15}, {Op: api.IBin, Imm: -1}, // operations
		{Op: api.IHalt, Imm: api.MinImm - 1}, {Op: api.IHalt, Imm: api.MaxImm + 1}, {Op: api.IAddi, Imm: 1 << 32}, // numbers
		{Op: api.IJmp, Imm: -1}, {Op: api.IJz, Imm: -1}, {Op: api.ICall, Imm: -1}, {Op: api.IJmp, Imm: api.MaxImm + 1},
	} {
		if Right(x) {
			t.Errorf("Right(%+v) is true", x)
		}
	}
	for _, k := range known {
		if !Right(k.x) {
			t.Errorf("Right(%+v) is false", k.x)
		}
	}
}

func TestEncodeAndDecodeKnown(t *testing.T) {
	for _, k := range known {
		if b, err := Encode(k.x); !bytes.Equal(b, k.bytes) || err != api.OK {
			t.Errorf("Encode(%+v): %v, error %d; want %v", k.x, b, err, k.bytes)
		}
		if x, err := Decode(k.bytes); x != k.x || err != api.OK {
			t.Errorf("Decode(%v): %+v, error %d; want %+v", k.bytes, x, err, k.x)
		}
	}
}

func TestEncodeRefusesWhatIsNotRight(t *testing.T) {
	all(func(x api.Inst) {
		if right(x) {
			return
		}
		if b, err := Encode(x); len(b) != 0 || err != api.ErrArg {
			t.Fatalf("Encode(%+v): %v, error %d", x, b, err)
		}
	})
}

func TestDecodeOtherLengths(t *testing.T) {
	for n := range 20 {
		if n == api.InstBytes {
			continue
		}
		b := make([]byte, n, 64) // all 0: halt 0, were there just enough
		if x, err := Decode(b); x != (api.Inst{}) || err != api.ErrForm {
			t.Errorf("Decode of %d bytes: %+v, error %d", n, x, err)
		}
	}
	if x, err := Decode(nil); x != (api.Inst{}) || err != api.ErrForm {
		t.Errorf("Decode(nil): %+v, error %d", x, err)
	}
}

// numberOf is what four bytes, the lowest first, are, with its sign.
func numberOf(b []byte) int {
	n := int(b[0]) + int(b[1])*256 + int(b[2])*65536 + int(b[3])*16777216
	if n > api.MaxImm {
		return n - 1<<32
	}
	return n
}

func TestDecodeIsWhatEncodeMakes(t *testing.T) {
	tails := [][]byte{
		{0, 0, 0, 0}, {1, 0, 0, 0}, {14, 0, 0, 0}, {15, 0, 0, 0}, {0, 1, 0, 0}, {0, 0, 1, 0}, {0, 0, 0, 1}, {1, 2, 3, 4},
		{255, 255, 255, 127}, {0, 0, 0, 128}, {1, 0, 0, 128}, {255, 255, 255, 255}, {251, 255, 255, 255},
	}
	for op := range 256 {
		for _, ab := range []byte{0, 1, 15, 16, 18, 240, 255} {
			for _, c := range []byte{0, 1, 3, 15, 16, 17, 128, 255} {
				for _, gap := range []byte{0, 1, 128, 255} {
					for _, tail := range tails {
						decodeOne(t, append([]byte{byte(op), ab, c, gap}, tail...))
					}
				}
			}
		}
	}
}

func decodeOne(t *testing.T, b []byte) {
	t.Helper()
	want := api.Inst{Op: int(b[0]), A: int(b[1]) / 16, B: int(b[1]) % 16, C: int(b[2]), Imm: numberOf(b[4:])}
	x, err := Decode(b)
	if b[3] != 0 || !right(want) {
		if x != (api.Inst{}) || err != api.ErrForm {
			t.Fatalf("Decode(%v): %+v, error %d", b, x, err)
		}
		return
	}
	if x != want || err != api.OK {
		t.Fatalf("Decode(%v): %+v, error %d; want %+v", b, x, err, want)
	}
	if back, err := Encode(x); !bytes.Equal(back, b) || err != api.OK {
		t.Fatalf("Encode(%+v): %v, error %d; want %v", x, back, err, b)
	}
}

// P2.2

func TestRows(t *testing.T) {
	var l []api.Inst
	var want []byte
	for _, k := range known {
		l, want = append(l, k.x), append(want, k.bytes...)
		if b, err := EncodeAll(l); !bytes.Equal(b, want) || err != api.OK {
			t.Errorf("EncodeAll of %d: %v, error %d", len(l), b, err)
		}
		if back, err := DecodeAll(want); !slices.Equal(back, l) || err != api.OK {
			t.Errorf("DecodeAll of %d: %+v, error %d", len(l), back, err)
		}
	}
}

func TestRowsOfNone(t *testing.T) {
	for _, l := range [][]api.Inst{nil, {}} {
		if b, err := EncodeAll(l); len(b) != 0 || err != api.OK {
			t.Errorf("EncodeAll of none: %v, error %d", b, err)
		}
	}
	for _, b := range [][]byte{nil, {}} {
		if l, err := DecodeAll(b); len(l) != 0 || err != api.OK {
			t.Errorf("DecodeAll of none: %v, error %d", l, err)
		}
	}
}

func TestRowsWithOneWrong(t *testing.T) {
	for place := range 5 {
		l := slices.Repeat([]api.Inst{{Op: api.IRet}}, 5)
		l[place].C = 1
		if b, err := EncodeAll(l); len(b) != 0 || err != api.ErrArg {
			t.Errorf("EncodeAll, wrong at %d: %v, error %d", place, b, err)
		}
		b := bytes.Repeat([]byte{api.IRet, 0, 0, 0, 0, 0, 0, 0}, 5)
		b[place*api.InstBytes+2] = 1
		if l, err := DecodeAll(b); len(l) != 0 || err != api.ErrForm {
			t.Errorf("DecodeAll, wrong at %d: %v, error %d", place, l, err)
		}
	}
}

func TestDecodeAllOfOtherLengths(t *testing.T) {
	for n := range 33 {
		b := make([]byte, n, 64)
		l, err := DecodeAll(b)
		if n%api.InstBytes != 0 && (len(l) != 0 || err != api.ErrForm) {
			t.Errorf("DecodeAll of %d bytes: %v, error %d", n, l, err)
		}
		if n%api.InstBytes == 0 && (len(l) != n/api.InstBytes || err != api.OK) {
			t.Errorf("DecodeAll of %d bytes: %v, error %d", n, l, err)
		}
	}
}

func TestRowsAtTheLimit(t *testing.T) {
	l := slices.Repeat([]api.Inst{{Op: api.IAddi, A: 1, B: 2, Imm: -3}}, api.MaxCode)
	l[api.MaxCode-1] = api.Inst{Op: api.IRet}
	b, err := EncodeAll(l)
	if err != api.OK || len(b) != api.MaxCode*api.InstBytes {
		t.Fatalf("EncodeAll of MaxCode: %d bytes, error %d", len(b), err)
	}
	back, err := DecodeAll(b)
	if err != api.OK || !slices.Equal(back, l) {
		t.Errorf("DecodeAll of MaxCode: %d, error %d", len(back), err)
	}
	b[len(b)-1] = 1
	if back, err := DecodeAll(b); len(back) != 0 || err != api.ErrForm {
		t.Errorf("DecodeAll of MaxCode, the last one wrong: %d, error %d", len(back), err)
	}
	l[api.MaxCode-1].A = 1
	if b, err := EncodeAll(l); len(b) != 0 || err != api.ErrArg {
		t.Errorf("EncodeAll of MaxCode, the last one wrong: %d bytes, error %d", len(b), err)
	}
}

func TestRowsPastTheLimit(t *testing.T) {
	for _, x := range []api.Inst{{Op: api.IRet}, {Op: -1}} { // ErrFull comes ahead of ErrArg and of ErrForm
		l := slices.Repeat([]api.Inst{x}, api.MaxCode+1)
		if b, err := EncodeAll(l); len(b) != 0 || err != api.ErrFull {
			t.Errorf("EncodeAll of MaxCode + 1 of %+v: %d bytes, error %d", x, len(b), err)
		}
		b := bytes.Repeat([]byte{byte(x.Op), 0, 0, 0, 0, 0, 0, 0}, api.MaxCode+1)
		if l, err := DecodeAll(b); len(l) != 0 || err != api.ErrFull {
			t.Errorf("DecodeAll of MaxCode + 1 of %+v: %d, error %d", x, len(l), err)
		}
	}
}

func TestDecodeAllWithARestAtTheLimit(t *testing.T) {
	b := bytes.Repeat([]byte{api.IRet, 0, 0, 0, 0, 0, 0, 0}, api.MaxCode+2)
	for _, c := range []struct {
		whole int
		want  api.Errno
	}{
		{api.MaxCode - 1, api.ErrForm},
		{api.MaxCode, api.ErrForm},     // as many as there may be, and a rest that is none
		{api.MaxCode + 1, api.ErrFull}, // ahead of ErrForm
	} {
		for rest := 1; rest < api.InstBytes; rest++ {
			n := c.whole*api.InstBytes + rest
			if l, err := DecodeAll(b[:n]); len(l) != 0 || err != c.want {
				t.Errorf("DecodeAll of %d bytes: %d, error %d; want error %d", n, len(l), err, c.want)
			}
		}
	}
}

// P2.3

// flow is what an instruction reads, writes and leads to, by the document's lists: a, b, c are fields, l is RegLink.
var flow = map[int]struct {
	reads  string
	writes string
	leads  bool
}{
	api.IHalt:  {"", "", false},
	api.ILi:    {"", "a", false},
	api.ILih:   {"a", "a", false},
	api.IMov:   {"b", "a", false},
	api.IBin:   {"bc", "a", false},
	api.ILd:    {"b", "a", false},
	api.ISt:    {"ab", "", false},
	api.IJmp:   {"", "", true},
	api.IJz:    {"a", "", true},
	api.ICall:  {"", "l", true},
	api.IRet:   {"l", "", false},
	api.IIn:    {"", "a", false},
	api.IOut:   {"a", "", false},
	api.IAlloc: {"b", "a", false},
	api.IAddi:  {"b", "a", false},
}

// pick is the registers that the letters of which name.
func pick(which string, x api.Inst) []int {
	var l []int
	for _, letter := range which {
		switch letter {
		case 'a':
			l = append(l, x.A)
		case 'b':
			l = append(l, x.B)
		case 'c':
			l = append(l, x.C)
		case 'l':
			l = append(l, api.RegLink)
		}
	}
	slices.Sort(l)
	return slices.Compact(l)
}

func TestUsesSetsJumpsOfRightOnes(t *testing.T) {
	for _, x := range allRight() {
		want := flow[x.Op]
		if got := Uses(x); !slices.Equal(got, pick(want.reads, x)) {
			t.Fatalf("Uses(%+v): %v", x, got)
		}
		reg, is := Sets(x)
		if set := pick(want.writes, x); is != (len(set) == 1) || is && reg != set[0] || !is && reg != 0 {
			t.Fatalf("Sets(%+v): %d, %t", x, reg, is)
		}
		to, is := Jumps(x)
		if is != want.leads || is && to != x.Imm || !is && to != 0 {
			t.Fatalf("Jumps(%+v): %d, %t", x, to, is)
		}
	}
}

func TestUsesRisingEachOnce(t *testing.T) {
	for _, k := range []struct {
		x    api.Inst
		want []int
	}{
		{api.Inst{Op: api.IBin, A: 9, B: 2, C: 3, Imm: 1}, []int{2, 3}},
		{api.Inst{Op: api.IBin, A: 9, B: 3, C: 2, Imm: 1}, []int{2, 3}},
		{api.Inst{Op: api.IBin, A: 9, B: 3, C: 3, Imm: 1}, []int{3}},
		{api.Inst{Op: api.IBin, A: 9, B: 15, C: 0, Imm: 14}, []int{0, 15}},
		{api.Inst{Op: api.ISt, A: 2, B: 1}, []int{1, 2}},
		{api.Inst{Op: api.ISt, A: 0, B: 15, Imm: -7}, []int{0, 15}},
		{api.Inst{Op: api.ISt, A: 0, B: 0}, []int{0}},
		{api.Inst{Op: api.IRet}, []int{15}},
		{api.Inst{Op: api.ICall, Imm: 3}, nil},
	} {
		if got := Uses(k.x); !slices.Equal(got, k.want) {
			t.Errorf("Uses(%+v): %v; want %v", k.x, got, k.want)
		}
	}
}

func TestUsesSetsJumpsOfWrongOnes(t *testing.T) {
	all(func(x api.Inst) {
		if right(x) {
			return
		}
		if l := Uses(x); len(l) != 0 {
			t.Fatalf("Uses(%+v): %v", x, l)
		}
		if n, is := Sets(x); n != 0 || is {
			t.Fatalf("Sets(%+v): %d, %t", x, n, is)
		}
		if n, is := Jumps(x); n != 0 || is {
			t.Fatalf("Jumps(%+v): %d, %t", x, n, is)
		}
	})
}

// P2.4

func TestTextKnown(t *testing.T) {
	for _, k := range known {
		if s := Text(k.x); s != k.text {
			t.Errorf("Text(%+v): %q; want %q", k.x, s, k.text)
		}
	}
}

func TestTextByTheTable(t *testing.T) {
	for _, x := range allRight() {
		fill := strings.NewReplacer(
			" ra", " r"+strconv.Itoa(x.A), " rb", " r"+strconv.Itoa(x.B), " rc", " r"+strconv.Itoa(x.C),
			"imm", strconv.Itoa(x.Imm),
		)
		if s, want := Text(x), fill.Replace(ruleOf(x.Op).text); s != want {
			t.Fatalf("Text(%+v): %q; want %q", x, s, want)
		}
	}
}

func TestTextOfWrongOnes(t *testing.T) {
	all(func(x api.Inst) {
		if s := Text(x); (s == "?") == right(x) {
			t.Fatalf("Text(%+v): %q", x, s)
		}
	})
}

// P2.5

func TestWhatIsHandedInStays(t *testing.T) {
	b := slices.Repeat([]byte{api.IOut, 16, 0, 0, 0, 0, 0, 0}, 4)
	before := slices.Clone(b)
	Decode(b[:api.InstBytes])
	DecodeAll(b[:2*api.InstBytes]) // with spare room behind
	DecodeAll(b[:2*api.InstBytes+3])
	if !bytes.Equal(b, before) {
		t.Errorf("bytes were changed: %v", b)
	}
	l := slices.Repeat([]api.Inst{{Op: api.IOut, A: 1}}, 4)
	l[3].Op = -1
	kept := slices.Clone(l)
	EncodeAll(l[:2])
	EncodeAll(l)
	if !slices.Equal(l, kept) {
		t.Errorf("instructions were changed: %+v", l)
	}
}

// spoil changes what was answered, spare room too.
func spoil[T any](l []T, with T) {
	l = l[:cap(l)]
	for i := range l {
		l[i] = with
	}
}

func TestWhatIsAnsweredIsNew(t *testing.T) {
	junk := api.Inst{Op: 99, A: 99, B: 99, C: 99, Imm: 99}
	for _, k := range known {
		b, _ := Encode(k.x)
		spoil(b, 99)
		if b, _ := Encode(k.x); !bytes.Equal(b, k.bytes) {
			t.Errorf("Encode(%+v) hangs on what became of its last answer: %v", k.x, b)
		}
		first := Uses(k.x)
		want := slices.Clone(first)
		spoil(first, 99)
		if l := Uses(k.x); !slices.Equal(l, want) {
			t.Errorf("Uses(%+v) hangs on what became of its last answer: %v", k.x, l)
		}
		l := []api.Inst{k.x, k.x}
		row, _ := EncodeAll(l)
		spoil(row, 99)
		if again, _ := EncodeAll(l); !bytes.Equal(again, slices.Concat(k.bytes, k.bytes)) {
			t.Errorf("EncodeAll of %+v hangs on what became of its last answer: %v", l, again)
		}
		in := slices.Concat(k.bytes, k.bytes)
		back, _ := DecodeAll(in)
		spoil(in, 99)
		if !slices.Equal(back, l) {
			t.Errorf("what DecodeAll answered hangs on what became of its bytes: %+v", back)
		}
		spoil(back, junk)
		if again, _ := DecodeAll(slices.Concat(k.bytes, k.bytes)); !slices.Equal(again, l) {
			t.Errorf("DecodeAll hangs on what became of its last answer: %+v", again)
		}
	}
}

// P2.6

func TestEachOthers(t *testing.T) {
	bytesOf, textOf := map[string]api.Inst{}, map[string]api.Inst{}
	l := allRight()
	for _, x := range l {
		b, err := Encode(x)
		if len(b) != api.InstBytes || err != api.OK {
			t.Fatalf("Encode(%+v): %v, error %d", x, b, err)
		}
		if back, err := Decode(b); back != x || err != api.OK {
			t.Fatalf("%+v comes back as %+v, error %d", x, back, err)
		}
		if y, twice := bytesOf[string(b)]; twice {
			t.Fatalf("%+v and %+v have the same bytes %v", x, y, b)
		}
		if y, twice := textOf[Text(x)]; twice {
			t.Fatalf("%+v and %+v have the same text %q", x, y, Text(x))
		}
		bytesOf[string(b)], textOf[Text(x)] = x, x
	}
	b, err := EncodeAll(l)
	if len(b) != len(l)*api.InstBytes || err != api.OK {
		t.Fatalf("EncodeAll of %d: %d bytes, error %d", len(l), len(b), err)
	}
	if back, err := DecodeAll(b); !slices.Equal(back, l) || err != api.OK {
		t.Errorf("rows do not come back, error %d", err)
	}
	for i, x := range l {
		if one, _ := Encode(x); !bytes.Equal(one, b[i*api.InstBytes:(i+1)*api.InstBytes]) {
			t.Fatalf("the bytes of %+v in a row are others", x)
		}
	}
}
