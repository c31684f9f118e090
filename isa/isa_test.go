package isa

import (
	"bytes"
	"fmt"
	"math"
	"slices"
	"testing"

	"corral/api"
)

const top = 1<<32 - 1

// shape tells, by the chapter's words, how an operation's instructions lie: how many bytes, and which of A, B and the number it has.
type shape struct {
	op, size int
	a, b     bool
	most     uint32
}

// shapes answers all operations' shapes, written out one by one.
func shapes() []shape {
	return []shape{
		{api.Halt, 1, false, false, 0},
		{api.Movi, 6, true, false, top},
		{api.Mov, 2, true, true, 0},
		{api.Add, 2, true, true, 0},
		{api.Sub, 2, true, true, 0},
		{api.Mul, 2, true, true, 0},
		{api.Div, 2, true, true, 0},
		{api.Rem, 2, true, true, 0},
		{api.And, 2, true, true, 0},
		{api.Or, 2, true, true, 0},
		{api.Xor, 2, true, true, 0},
		{api.Shl, 2, true, true, 0},
		{api.Shr, 2, true, true, 0},
		{api.Lt, 2, true, true, 0},
		{api.Eq, 2, true, true, 0},
		{api.Load, 2, true, true, 0},
		{api.Store, 2, true, true, 0},
		{api.MaskD, 2, true, false, 0},
		{api.MaskC, 2, true, false, 0},
		{api.Jmp, 5, false, false, top},
		{api.Jz, 6, true, false, top},
		{api.Jr, 2, true, false, 0},
		{api.Gate, 2, false, false, 255},
		{api.Nop, 1, false, false, 0},
	}
}

// none answers numbers that are no operation's.
func none() []int {
	return []int{-1, -2, -23, -24, -255, -256, 24, 25, 32, 127, 128, 255, 256, 256 + api.Movi, 256 + api.Nop, 1<<16 + api.Add, 1<<32 + api.Add, math.MaxInt32, math.MinInt32, math.MaxInt, math.MinInt}
}

// registers answers numbers of registers, and such as are none.
func registers() []int {
	return []int{0, 1, 2, 3, 4, 5, 6, 7, 8, 9, 15, 16, 23, 128, 255, 256, 257, 263, 1 << 32, 1<<32 + 7, math.MaxInt, -1, -7, -8, -16, -256, math.MinInt}
}

// numbers answers the edges of what a number may be.
func numbers() []uint32 {
	return []uint32{0, 1, 2, 127, 128, 254, 255, 256, 257, 511, 512, 65535, 65536, 0x01020304, 0xfffefdfc, 1<<24 - 1, 1 << 24, 1<<31 - 1, 1 << 31, top - 1, top}
}

// right tells, by the shapes, whether it is an instruction.
func right(s shape, x api.Ins) bool {
	if !s.a && x.A != 0 || !s.b && x.B != 0 || x.Imm > s.most {
		return false
	}
	return x.A >= 0 && x.A <= 7 && x.B >= 0 && x.B <= 7
}

// all answers, of an operation, instructions of all registers and numbers, right ones and others.
func all(op int) []api.Ins {
	var l []api.Ins
	for _, a := range registers() {
		for _, b := range registers() {
			for _, n := range numbers() {
				l = append(l, api.Ins{Op: op, A: a, B: b, Imm: n})
			}
		}
	}
	return l
}

// rights answers the right ones of them, of all operations.
func rights() []api.Ins {
	var l []api.Ins
	for _, s := range shapes() {
		for _, x := range all(s.op) {
			if right(s, x) {
				l = append(l, x)
			}
		}
	}
	return l
}

// laid is an instruction and its bytes, written out.
type laid struct {
	x    api.Ins
	want string
}

func examples() []laid {
	return []laid{
		{api.Ins{}, "\x00"},
		{api.Ins{Op: api.Nop}, "\x17"},
		{api.Ins{Op: api.Movi}, "\x01\x00\x00\x00\x00\x00"},
		{api.Ins{Op: api.Movi, A: 1, Imm: 5}, "\x01\x01\x05\x00\x00\x00"},
		{api.Ins{Op: api.Movi, A: 3, Imm: 0x01020304}, "\x01\x03\x04\x03\x02\x01"},
		{api.Ins{Op: api.Movi, A: 7, Imm: top}, "\x01\x07\xff\xff\xff\xff"},
		{api.Ins{Op: api.Mov, A: 7}, "\x02\x70"},
		{api.Ins{Op: api.Mov, B: 7}, "\x02\x07"},
		{api.Ins{Op: api.Add, A: 1, B: 2}, "\x03\x12"},
		{api.Ins{Op: api.Sub, A: 7, B: 7}, "\x04\x77"},
		{api.Ins{Op: api.Mul}, "\x05\x00"},
		{api.Ins{Op: api.Div, A: 3, B: 4}, "\x06\x34"},
		{api.Ins{Op: api.Rem, A: 4, B: 3}, "\x07\x43"},
		{api.Ins{Op: api.And, A: 5, B: 6}, "\x08\x56"},
		{api.Ins{Op: api.Or, A: 6, B: 5}, "\x09\x65"},
		{api.Ins{Op: api.Xor, A: 2, B: 2}, "\x0a\x22"},
		{api.Ins{Op: api.Shl, A: 1, B: 7}, "\x0b\x17"},
		{api.Ins{Op: api.Shr, A: 7, B: 1}, "\x0c\x71"},
		{api.Ins{Op: api.Lt, A: 0, B: 1}, "\x0d\x01"},
		{api.Ins{Op: api.Eq, A: 1, B: 0}, "\x0e\x10"},
		{api.Ins{Op: api.Load, A: 2, B: 5}, "\x0f\x25"},
		{api.Ins{Op: api.Store, A: 7, B: 1}, "\x10\x71"},
		{api.Ins{Op: api.MaskD}, "\x11\x00"},
		{api.Ins{Op: api.MaskD, A: 2}, "\x11\x20"},
		{api.Ins{Op: api.MaskC, A: 7}, "\x12\x70"},
		{api.Ins{Op: api.Jmp}, "\x13\x00\x00\x00\x00"},
		{api.Ins{Op: api.Jmp, Imm: 1}, "\x13\x01\x00\x00\x00"},
		{api.Ins{Op: api.Jmp, Imm: 256}, "\x13\x00\x01\x00\x00"},
		{api.Ins{Op: api.Jmp, Imm: top - 4}, "\x13\xfb\xff\xff\xff"},
		{api.Ins{Op: api.Jz, A: 7, Imm: 1 << 31}, "\x14\x07\x00\x00\x00\x80"},
		{api.Ins{Op: api.Jr, A: 5}, "\x15\x50"},
		{api.Ins{Op: api.Gate}, "\x16\x00"},
		{api.Ins{Op: api.Gate, Imm: 5}, "\x16\x05"},
		{api.Ins{Op: api.Gate, Imm: 255}, "\x16\xff"},
	}
}

// 2.1

func TestSize(t *testing.T) {
	for op, s := range shapes() {
		if s.op != op {
			t.Fatalf("the operation %d stands at %d", s.op, op)
		}
		if got := Size(op); got != s.size {
			t.Errorf("Size(%d) = %d, want %d", op, got, s.size)
		}
	}
	for _, op := range none() {
		if got := Size(op); got != 0 {
			t.Errorf("Size(%d) = %d, of no operation", op, got)
		}
	}
}

func TestRight(t *testing.T) {
	for _, s := range shapes() {
		for _, x := range all(s.op) {
			if got := Right(x); got != right(s, x) {
				t.Errorf("Right(%v) = %v", x, got)
			}
		}
	}
}

func TestRightOneByOne(t *testing.T) {
	for _, x := range []struct {
		x    api.Ins
		want bool
	}{
		{api.Ins{Op: api.Halt}, true}, {api.Ins{Op: api.Halt, A: 1}, false}, {api.Ins{Op: api.Halt, B: 1}, false}, {api.Ins{Op: api.Halt, Imm: 1}, false},
		{api.Ins{Op: api.Nop}, true}, {api.Ins{Op: api.Nop, A: -1}, false}, {api.Ins{Op: api.Nop, Imm: top}, false},
		{api.Ins{Op: api.Movi, A: 7, Imm: top}, true}, {api.Ins{Op: api.Movi, A: 8}, false}, {api.Ins{Op: api.Movi, A: -1}, false}, {api.Ins{Op: api.Movi, B: 1}, false},
		{api.Ins{Op: api.Add, A: 7, B: 7}, true}, {api.Ins{Op: api.Add, A: 8}, false}, {api.Ins{Op: api.Add, B: 8}, false}, {api.Ins{Op: api.Add, B: -1}, false}, {api.Ins{Op: api.Add, Imm: 1}, false},
		{api.Ins{Op: api.MaskC, A: 7}, true}, {api.Ins{Op: api.MaskC, B: 1}, false}, {api.Ins{Op: api.MaskC, A: 8}, false}, {api.Ins{Op: api.MaskD, Imm: 1}, false},
		{api.Ins{Op: api.Jmp, Imm: top}, true}, {api.Ins{Op: api.Jmp, A: 1}, false}, {api.Ins{Op: api.Jmp, B: 1}, false},
		{api.Ins{Op: api.Jz, A: 7, Imm: 256}, true}, {api.Ins{Op: api.Jz, A: 8}, false}, {api.Ins{Op: api.Jz, B: 7}, false},
		{api.Ins{Op: api.Jr, A: 7}, true}, {api.Ins{Op: api.Jr, B: 1}, false}, {api.Ins{Op: api.Jr, Imm: 1}, false},
		{api.Ins{Op: api.Gate, Imm: 255}, true}, {api.Ins{Op: api.Gate, Imm: 256}, false}, {api.Ins{Op: api.Gate, A: 1}, false}, {api.Ins{Op: api.Gate, B: 1}, false},
		{api.Ins{Op: -1}, false}, {api.Ins{Op: 24}, false},
	} {
		if got := Right(x.x); got != x.want {
			t.Errorf("Right(%v) = %v", x.x, got)
		}
	}
}

func TestLay(t *testing.T) {
	for _, e := range examples() {
		if got := Lay(e.x); got != e.want {
			t.Errorf("Lay(%v) = %q, want %q", e.x, got, e.want)
		}
	}
}

func TestLayOfWrongOnes(t *testing.T) {
	for _, s := range shapes() {
		for _, x := range all(s.op) {
			want := 0
			if right(s, x) {
				want = s.size
			}
			if got := Lay(x); len(got) != want {
				t.Errorf("Lay(%v) = %q, want %d bytes", x, got, want)
			}
		}
	}
}

func TestNoOperation(t *testing.T) {
	for _, op := range none() {
		for _, x := range []api.Ins{{Op: op}, {Op: op, A: 1, B: 2}, {Op: op, A: 7, Imm: 255}, {Op: op, A: -1, B: 8, Imm: top}} {
			if Right(x) || Lay(x) != "" {
				t.Errorf("%v: Right = %v, Lay = %q", x, Right(x), Lay(x))
			}
		}
	}
}

// 2.2

// checkRead holds what is read of some bytes against what is to be read.
func checkRead(t *testing.T, code []byte, at int, want api.Ins, size int) {
	t.Helper()
	if got, n := Read(code, at); got != want || n != size {
		t.Errorf("Read(%q, %d) = %v, %d, want %v, %d", code, at, got, n, want, size)
	}
}

func TestRead(t *testing.T) {
	for _, e := range examples() {
		for _, ahead := range []string{"", "\x00", "\x17", "\x01", "\xff\xff", "\x01\x07\x01\x02\x03"} {
			for _, behind := range []string{"", "\x00", "\x17", "\xff", "\x01\x02\x03\x04\x05\x06"} {
				checkRead(t, []byte(ahead+e.want+behind), len(ahead), e.x, len(e.want))
			}
		}
	}
}

func TestReadCutOff(t *testing.T) {
	for _, e := range examples() {
		for n := range len(e.want) {
			checkRead(t, []byte(e.want)[:n:n], 0, api.Ins{}, 0)
			checkRead(t, []byte(e.want)[:n], 0, api.Ins{}, 0) // what lies in spare room isn't code
			checkRead(t, []byte("\x17\x17" + e.want)[:2+n], 2, api.Ins{}, 0)
		}
	}
}

func TestReadOutside(t *testing.T) {
	for _, code := range []string{"", "\x17", "\x17\x00\x17", "\x01\x01\x05\x00\x00\x00", "\x03\x12\x03\x12"} {
		l := make([]byte, len(code), len(code)+64) // zeros in spare room would be Halts
		copy(l, code)
		for _, at := range []int{-1, -2, -len(code), -len(code) - 1, len(code), len(code) + 1, len(code) + 63, 1 << 16, 1 << 31, 1 << 32, math.MaxInt - 5, math.MaxInt, math.MinInt, math.MinInt + 1} {
			if at != 0 || code == "" {
				checkRead(t, l, at, api.Ins{}, 0)
			}
		}
	}
	checkRead(t, nil, 0, api.Ins{}, 0)
	checkRead(t, nil, -1, api.Ins{}, 0)
	checkRead(t, nil, math.MaxInt, api.Ins{}, 0)
}

func TestReadOfNone(t *testing.T) {
	for op := 24; op < 256; op++ {
		checkRead(t, []byte{byte(op), 0, 0, 0, 0, 0}, 0, api.Ins{}, 0)
		checkRead(t, []byte{byte(op)}, 0, api.Ins{}, 0)
	}
	for _, code := range []string{
		"\x03\x82", "\x03\x28", "\x02\xf0", "\x02\x0f", "\x10\x88", "\x0f\xff", // registers beyond 7
		"\x11\x21", "\x12\x01", "\x15\x0f", "\x11\x80", "\x15\xf0", // a B that there isn't, an A beyond 7
		"\x01\x08\x00\x00\x00\x00", "\x01\x10\x00\x00\x00\x00", "\x14\x70\x00\x00\x00\x00", "\x14\xff\xff\xff\xff\xff",
	} {
		checkRead(t, []byte(code), 0, api.Ins{}, 0)
		checkRead(t, []byte("\x17"+code+"\x17"), 1, api.Ins{}, 0)
	}
}

func TestReadLeavesTheCode(t *testing.T) {
	room := []byte("\x17\x01\x07\x01\x02\x03\x04\x16\xff\x03\x82\x01\x02\x03")
	before := bytes.Clone(room)
	for n := range len(room) + 1 {
		for at := -1; at <= n; at++ {
			Read(room[:n], at)
		}
	}
	if !bytes.Equal(room, before) {
		t.Errorf("the code became %q", room)
	}
}

// 2.3

func TestThereAndBack(t *testing.T) {
	seen := map[string]api.Ins{}
	for _, x := range rights() {
		s := Lay(x)
		checkRead(t, []byte(s), 0, x, Size(x.Op))
		if y, twice := seen[s]; twice && y != x {
			t.Errorf("%v and %v are both laid as %q", x, y, s)
		}
		seen[s] = x
	}
}

// TestNothingElse reads all first two bytes, with some behind them: what is read lays those bytes, and bytes of which nothing is read are laid of no instruction.
func TestNothingElse(t *testing.T) {
	laid := map[string]bool{}
	for _, x := range rights() {
		laid[Lay(x)] = true
	}
	for _, behind := range []string{"", "\x00", "\x00\x00\x00", "\x00\x00\x00\x00", "\x04\x03\x02\x01", "\xff\xff\xff\xff", "\xff\xff\xff\xff\xff"} {
		for i := range 1 << 16 {
			code := append([]byte{byte(i >> 8), byte(i)}, behind...)
			x, n := Read(code, 0)
			if n > 0 && (!Right(x) || Lay(x) != string(code[:n]) || n != Size(x.Op)) {
				t.Fatalf("Read(%q) = %v, %d, which is laid as %q", code, x, n, Lay(x))
			}
			if n == 0 && (x != api.Ins{} || begins(laid, code)) {
				t.Fatalf("Read(%q) = %v, %d", code, x, n)
			}
		}
	}
}

// begins tells whether bytes begin with an instruction's.
func begins(laid map[string]bool, code []byte) bool {
	for n := range len(code) + 1 {
		if laid[string(code[:n])] {
			return true
		}
	}
	return false
}

func TestOneBehindTheOther(t *testing.T) {
	var code []byte
	var want []api.Ins
	for i, x := range rights() {
		if i%7 == 0 {
			code = append(code, Lay(x)...)
			want = append(want, x)
		}
	}
	var got []api.Ins
	for at := 0; at < len(code); {
		x, n := Read(code, at)
		if n == 0 {
			t.Fatalf("nothing at %d of %d", at, len(code))
		}
		got = append(got, x)
		at += n
	}
	if !slices.Equal(got, want) {
		t.Errorf("%d instructions were laid, %d others read", len(want), len(got))
	}
}

func ExampleLay() {
	fmt.Println([]byte(Lay(api.Ins{Op: api.Add, A: 1, B: 2})))
	// Output: [3 18]
}
