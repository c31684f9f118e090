package step

import (
	"bytes"
	"fmt"
	"math"
	"testing"

	"corral/api"
	"corral/mem"
)

// number answers a number's four bytes, behind others.
func number(v uint32, ahead ...byte) []byte {
	return append(ahead, byte(v), byte(v>>8), byte(v>>16), byte(v>>24))
}

// 4.1

// TestEachOperation tells of each operation once, written out, what it makes of registers 1000, 7, 0, ..
func TestEachOperation(t *testing.T) {
	set := func(at int, v uint32) [8]uint32 {
		r := [8]uint32{1000, 7, 0, 70, 0xfffffffe, 72, 5, 0}
		if at >= 0 {
			r[at] = v
		}
		return r
	}
	for _, x := range []struct {
		name string
		code []byte
		r    [8]uint32
		pc   uint32
		out  Out
	}{
		{"Halt", []byte{0}, set(-1, 0), 64, Out{What: api.Halted}},
		{"Movi 1", number(0x01020304, 1, 1), set(1, 0x01020304), 70, Out{}},
		{"Mov 1 3", []byte{2, 0x13}, set(1, 70), 66, Out{}},
		{"Add 0 1", []byte{3, 0x01}, set(0, 1007), 66, Out{}},
		{"Sub 1 0", []byte{4, 0x10}, set(1, top-992), 66, Out{}},
		{"Mul 0 1", []byte{5, 0x01}, set(0, 7000), 66, Out{}},
		{"Div 0 4", []byte{6, 0x04}, set(0, top-499), 66, Out{}},
		{"Rem 0 1", []byte{7, 0x01}, set(0, 6), 66, Out{}},
		{"And 0 1", []byte{8, 0x01}, set(0, 0), 66, Out{}},
		{"Or 0 1", []byte{9, 0x01}, set(0, 1007), 66, Out{}},
		{"Xor 0 3", []byte{10, 0x03}, set(0, 942), 66, Out{}},
		{"Shl 1 6", []byte{11, 0x16}, set(1, 224), 66, Out{}},
		{"Shr 0 6", []byte{12, 0x06}, set(0, 31), 66, Out{}},
		{"Lt 4 1", []byte{13, 0x41}, set(4, 1), 66, Out{}},
		{"Eq 2 7", []byte{14, 0x27}, set(2, 1), 66, Out{}},
		{"Eq 2 1", []byte{14, 0x21}, set(2, 0), 66, Out{}},
		{"Load 2 5", []byte{15, 0x25}, set(2, 0xd1d1d1d1), 66, Out{}},
		{"Store 5 0", []byte{16, 0x50}, set(-1, 0), 66, Out{}},
		{"MaskD 0", []byte{17, 0x00}, set(0, 256+64+1000%64), 66, Out{}},
		{"MaskC 0", []byte{18, 0x00}, set(0, 256+32), 66, Out{}},
		{"Jmp", number(9, 19), set(-1, 0), 78, Out{}},
		{"Jz 2", number(9, 20, 2), set(-1, 0), 79, Out{}},
		{"Jz 1", number(9, 20, 1), set(-1, 0), 70, Out{}},
		{"Jr 0", []byte{21, 0x00}, set(-1, 0), 1000, Out{}},
		{"Gate 9", []byte{22, 9}, set(-1, 0), 66, Out{What: api.Gated, Gate: 9}},
		{"Nop", []byte{23}, set(-1, 0), 65, Out{}},
	} {
		m, p := made(t, 256, 0xd1, 1, 2)
		write(t, m, p, 64, x.code...)
		c := Cpu{Pc: 64, R: set(-1, 0), Base: 256, Size: 128}
		want := Cpu{Pc: x.pc, R: x.r, Base: 256, Size: 128}
		if got, out := Do(c, m); got != want || out != x.out {
			t.Errorf("%s: Do = %v, %v, want %v, %v", x.name, got, out, want, x.out)
		}
		if x.name == "Store 5 0" {
			copy(p.b[72:], number(1000))
		}
		checkSame(t, m, p, x.name)
	}
}

// TestReckoningAtEdges does Add to Eq of all pairs of numbers at the edges.
func TestReckoningAtEdges(t *testing.T) {
	for op := byte(api.Add); op <= api.Eq; op++ {
		m, p := made(t, 64, 0, 0)
		write(t, m, p, 0, op, 0x25)
		for _, a := range numbers() {
			for _, b := range numbers() {
				c := Cpu{R: regs(), Base: 3, Size: 9}
				c.R[2], c.R[5] = a, b
				checkStep(t, c, m, p)
			}
		}
	}
}

// TestAllRegisters does each operation of two registers with all pairs of them, one with itself too.
func TestAllRegisters(t *testing.T) {
	for op := byte(api.Mov); op <= api.Store; op++ {
		for ab := range 256 {
			m, p := made(t, 128, 0x5a, 0, 1)
			write(t, m, p, 0, op, byte(ab))
			c := Cpu{R: [8]uint32{60, 7, 90, 1, 124, 20, 33, 2}, Base: 64, Size: 64}
			_, out := checkStep(t, c, m, p)
			if right := ab/16 < 8 && ab%16 < 8; right != (out.What != api.Broken) {
				t.Errorf("the operation %d, %d: %v", op, ab, out)
			}
		}
	}
}

// TestWholeNumbers hands Movi numbers at the edges, in each register, and in bytes that are no register.
func TestWholeNumbers(t *testing.T) {
	for a := range 256 {
		for _, v := range numbers() {
			m, p := made(t, 64, 0, 0)
			write(t, m, p, 0, number(v, 1, byte(a))...)
			got, out := checkStep(t, Cpu{R: regs()}, m, p)
			if a < 8 && (out != Out{} || got.R[a] != v || got.Pc != 6) || a >= 8 && out.What != api.Broken {
				t.Fatalf("Movi %d, %d: %v, %v", a, v, got, out)
			}
		}
	}
}

func TestDivisionByZero(t *testing.T) {
	for _, op := range []byte{api.Div, api.Rem} {
		for a := byte(0); a < 8; a++ {
			for b := byte(0); b < 8; b++ {
				m, p := made(t, 64, 0xee, 0)
				write(t, m, p, 20, op, a<<4|b)
				c := Cpu{Pc: 20, R: regs(), Base: 1, Size: 64}
				c.R[b] = 0
				got, out := checkStep(t, c, m, p)
				if got != c || out != (Out{What: api.Trapped}) {
					t.Errorf("%d %d %d: Do = %v, %v", op, a, b, got, out)
				}
			}
		}
	}
}

func TestTheLeastByMinusOne(t *testing.T) {
	for op, want := range map[byte]uint32{api.Div: 1 << 31, api.Rem: 0} {
		m, p := made(t, 64, 0, 0)
		write(t, m, p, 0, op, 0x12)
		got, out := checkStep(t, Cpu{R: [8]uint32{1: 1 << 31, 2: top}}, m, p)
		if got.R[1] != want || out != (Out{}) {
			t.Errorf("%d: Do = %v, %v", op, got, out)
		}
	}
}

// TestPlaces makes a step of each place, in zones that are there and that aren't, and beyond the memory.
func TestPlaces(t *testing.T) {
	m, p := made(t, 256, api.Nop, 1, 3)
	for at := range uint32(400) {
		c := Cpu{Pc: at, R: regs(), Base: 64, Size: 128}
		got, out := checkStep(t, c, m, p)
		there := at >= 64 && at < 128 || at >= 192 && at < 256
		if there && (out.What != api.Runs || got.Pc != at+1) || !there && (out != Out{What: api.Faulted} || got != c) {
			t.Errorf("at %d: %v, %v", at, got, out)
		}
	}
}

// TestFarPlaces asks for places whose lowest bits alone, or six bytes on, would be in the memory.
func TestFarPlaces(t *testing.T) {
	m, p := made(t, 65536, api.Nop)
	m.Set(0, 65536, true)
	for i := range p.is {
		p.is[i] = true
	}
	for _, at := range []uint32{top, top - 1, top - 2, top - 3, top - 4, top - 5, top - 6, top - 63, top - 65535, 1 << 31, 1<<31 - 1, 1<<31 - 6, 65536, 65537, 65536 + 64, 1 << 20, 1<<31 + 64} {
		c := Cpu{Pc: at, R: regs(), Base: 64, Size: 128}
		if got, out := checkStep(t, c, m, p); got != c || out != (Out{What: api.Faulted}) {
			t.Errorf("at %d: %v, %v", at, got, out)
		}
	}
	if got, out := Do(Cpu{Pc: 65535}, m); out.What != api.Halted || got.Pc != 65535 {
		t.Errorf("at the last byte: %v, %v", got, out)
	}
}

// TestBytesOfNoInstruction makes a step of each two bytes: what no instruction begins with is Broken.
func TestBytesOfNoInstruction(t *testing.T) {
	m, p := made(t, 64, 0, 0)
	for op := range 256 {
		for next := range 256 {
			write(t, m, p, 10, byte(op), byte(next), 1, 0, 0, 0)
			c := Cpu{Pc: 10, R: [8]uint32{40, 41, 42, 43, 44, 45, 46, 47}, Base: 0, Size: 64}
			got, out := checkStep(t, c, m, p)
			if op > api.Nop && (out != Out{What: api.Broken} || got != c) {
				t.Fatalf("%d, %d: %v, %v", op, next, got, out)
			}
		}
	}
}

// instructions answers one of each form and size.
func instructions() [][]byte {
	return [][]byte{{0}, {23}, {2, 0x12}, {3, 0x12}, {14, 0x77}, {15, 0x03}, {16, 0x34}, {17, 0x30}, {18, 0x70}, {21, 0x20}, {22, 200}, number(3, 19), number(top-2, 19), number(7, 20, 0), number(7, 20, 6), number(top, 1, 7)}
}

// TestCutInstructions lays instructions so that their later bytes aren't there, or are in the next zone: behind the last byte that is there comes a zone that isn't, or the end.
func TestCutInstructions(t *testing.T) {
	for _, zones := range [][]int{{0}, {0, 1}, {0, 1, 2}, {0, 2}} {
		for _, code := range instructions() {
			for at := 50; at < 192; at++ {
				m, p := made(t, 192, 0, zones...)
				n := 0
				for n < len(code) && p.has(int64(at+n), 1) {
					n++
				}
				write(t, m, p, at, code[:n]...)
				c := Cpu{Pc: uint32(at), R: [8]uint32{0, 1, 2, 30, 4, 5, 6, 7}, Base: 64, Size: 128}
				got, out := checkStep(t, c, m, p)
				switch {
				case n == 0 && out.What != api.Faulted, n > 0 && n < len(code) && out.What != api.Broken, n == len(code) && out.What == api.Broken:
					t.Fatalf("%v at %d, of which %d are there: %v, %v", code, at, n, got, out)
				case n < len(code) && got != c:
					t.Fatalf("%v at %d: the processor is %v, want %v", code, at, got, c)
				}
			}
		}
	}
}

// TestTheZoneBehindAHole holds that no byte behind the first one that isn't there is read, as if the two were neighbours.
func TestTheZoneBehindAHole(t *testing.T) {
	m, p := made(t, 192, 1, 0, 2)
	c := Cpu{Pc: 63}
	if got, out := checkStep(t, c, m, p); got != c || out != (Out{What: api.Broken}) {
		t.Errorf("Do = %v, %v", got, out)
	}
}

func TestLoadAndStoreAtAllPlaces(t *testing.T) {
	for _, op := range []byte{api.Load, api.Store} {
		for at := range uint32(330) {
			m, p := made(t, 320, 0, 0, 2, 3)
			for i := 128; i < 256; i++ {
				write(t, m, p, i, byte(i*3))
			}
			write(t, m, p, 0, op, 0x12)
			c := Cpu{R: [8]uint32{1: 0xa1b2c3d4, 2: at}, Base: 64, Size: 256}
			if op == api.Store {
				c.R[1], c.R[2] = at, 0xa1b2c3d4
			}
			got, out := checkStep(t, c, m, p)
			there := at <= 60 || at >= 128 && at <= 252
			if there && out != (Out{}) || !there && (out != Out{What: api.Faulted} || got != c) {
				t.Errorf("%d at %d: %v, %v", op, at, got, out)
			}
		}
	}
}

func TestLoadAndStoreFarOff(t *testing.T) {
	m, p := made(t, 65536, 0)
	m.Set(0, 65536, true)
	for i := range p.is {
		p.is[i] = true
	}
	for _, at := range []uint32{65533, 65534, 65535, 65536, 65537, 1 << 31, 1<<31 - 1, 1<<31 - 4, top, top - 1, top - 2, top - 3, top - 4, top - 65535} {
		write(t, m, p, 0, api.Load, 0x12, api.Store, 0x21)
		c := Cpu{R: [8]uint32{1: 5, 2: at}}
		if got, out := checkStep(t, c, m, p); got != c || out != (Out{What: api.Faulted}) {
			t.Errorf("Load at %d: %v, %v", at, got, out)
		}
		c.Pc = 2
		if got, out := checkStep(t, c, m, p); got != c || out != (Out{What: api.Faulted}) {
			t.Errorf("Store at %d: %v, %v", at, got, out)
		}
	}
	c := Cpu{Pc: 2, R: [8]uint32{1: 0x01020304, 2: 65532}}
	if _, out := checkStep(t, c, m, p); out != (Out{}) {
		t.Errorf("Store at the last four bytes: %v", out)
	}
	if b, _ := m.Read(65532, 4); !bytes.Equal(b, []byte{4, 3, 2, 1}) {
		t.Errorf("the last four bytes are %v", b)
	}
}

// TestStoreOverItself writes over the instruction that is being done; the next step reads what was written.
func TestStoreOverItself(t *testing.T) {
	m, p := made(t, 64, 0, 0)
	write(t, m, p, 0, api.Store, 0x12)
	c, out := checkStep(t, Cpu{R: [8]uint32{1: 0, 2: api.Nop * 0x01010101}}, m, p)
	if c.Pc != 2 || out != (Out{}) {
		t.Fatalf("Do = %v, %v", c, out)
	}
	if c, out = checkStep(t, c, m, p); c.Pc != 3 || out != (Out{}) {
		t.Errorf("Do = %v, %v", c, out)
	}
}

// regions answers bases and sizes of regions, those that no slab would give among them.
func regions() []Cpu {
	var all []Cpu
	for _, base := range []uint32{0, 1, 31, 32, 33, 64, 100, 128, 256, 4096, 61440, 1 << 31, top - 127, top - 63, top - 31, top - 1, top} {
		for _, size := range []uint32{0, 1, 2, 3, 4, 5, 31, 32, 33, 61, 62, 63, 64, 65, 66, 67, 127, 128, 129, 130, 131, 255, 1000, 1001, 4096, 65536, 1 << 31, 1<<31 + 1, top - 1, top} {
			all = append(all, Cpu{Base: base, Size: size, R: regs(), Pc: 9})
		}
	}
	return all
}

func TestDataAndCode(t *testing.T) {
	for _, c := range regions() {
		for _, v := range append(numbers(), c.Base, c.Base+c.Size, c.Base+c.Size/2, c.Size, c.Size/2, c.Size/2-1) {
			if got, want := Data(c, v), maskedD(c, v); got != want {
				t.Fatalf("Data(%d and %d, %d) = %d, want %d", c.Base, c.Size, v, got, want)
			}
			if got, want := Code(c, v), maskedC(c, v); got != want {
				t.Fatalf("Code(%d and %d, %d) = %d, want %d", c.Base, c.Size, v, got, want)
			}
		}
	}
}

// TestDataAndCodeWrittenOut tells some of them in numbers.
func TestDataAndCodeWrittenOut(t *testing.T) {
	for _, x := range []struct{ base, size, v, data, code uint32 }{
		{256, 128, 1000, 360, 288}, {256, 128, 63, 383, 288}, {256, 128, 64, 320, 256}, {256, 128, 31, 351, 256}, {256, 128, top, 383, 288},
		{0, 0, 77, 0, 0}, {500, 0, 77, 500, 500}, {500, 1, 77, 500, 500}, {500, 2, 77, 501, 500}, {500, 3, 77, 501, 500}, // a half of 0 and of 1
		{500, 62, 77, 500 + 31 + 15, 500}, {500, 63, 30, 500 + 31 + 30, 500}, // halves below 32
		{0, 65, 33, 33, 0}, {0, 67, 65, 33 + 32, 32}, {0, 131, 64, 65 + 64, 64}, // odd sizes, rounded down
		{top - 63, 128, 5, 5, top - 63}, {top - 63, 128, 40, 40, top - 31}, {top, 128, 33, 63 + 33, 31}, {top - 31, 256, 100, 96 + 100, 64}, // sums beyond 2^32
		{0, top, top, 1<<31 - 1 + 1, 0}, {0, top, 1<<31 - 2, top - 2, 1<<31 - 32},
	} {
		c := Cpu{Base: x.base, Size: x.size}
		if Data(c, x.v) != x.data || Code(c, x.v) != x.code {
			t.Errorf("%v: Data = %d, Code = %d", x, Data(c, x.v), Code(c, x.v))
		}
	}
}

// TestMasksAsSteps holds MaskD and MaskC, as steps in each register, against Data and Code.
func TestMasksAsSteps(t *testing.T) {
	m, p := made(t, 64, 0, 0)
	for _, c := range regions() {
		for a := byte(0); a < 8; a++ {
			for _, op := range []byte{api.MaskD, api.MaskC} {
				write(t, m, p, 9, op, a*16)
				want := c
				want.Pc, want.R[a] = 11, Data(c, c.R[a])
				if op == api.MaskC {
					want.R[a] = Code(c, c.R[a])
				}
				if got, out := checkStep(t, c, m, p); got != want || out != (Out{}) {
					t.Fatalf("%d of register %d: %v, %v, want %v", op, a, got, out, want)
				}
			}
		}
	}
}

// TestDataAndCodeOfTheRegionAlone holds that neither the place nor the registers matter.
func TestDataAndCodeOfTheRegionAlone(t *testing.T) {
	c, d := Cpu{Base: 256, Size: 128}, Cpu{Base: 256, Size: 128, Pc: top, R: regs()}
	for _, v := range numbers() {
		if Data(c, v) != Data(d, v) || Code(c, v) != Code(d, v) {
			t.Errorf("of %d: %d and %d, %d and %d", v, Data(c, v), Data(d, v), Code(c, v), Code(d, v))
		}
	}
}

func TestJumps(t *testing.T) {
	for _, x := range []struct{ at, by, want uint32 }{
		{0, 0, 5}, {0, 10, 15}, {20, top - 4, 20}, {20, top, 24}, {20, top - 24, 0}, {20, top - 25, top}, {0, top - 4, 0}, {0, top - 5, top}, {20, 1 << 31, 1<<31 + 25}, {59, 1<<31 - 1, 1<<31 + 63}, {0, top - 5 + 1, 0}, {40, top - 45 + 1, 0}, {40, top - 45 + 2, 1},
	} {
		m, p := made(t, 64, 0, 0)
		write(t, m, p, int(x.at), number(x.by, 19)...)
		c := Cpu{Pc: x.at, R: regs(), Base: 64, Size: 128}
		want := c
		want.Pc = x.want
		if got, out := checkStep(t, c, m, p); got != want || out != (Out{}) {
			t.Errorf("Jmp %d at %d: %v, %v", x.by, x.at, got, out)
		}
	}
}

func TestJumpsIfZero(t *testing.T) {
	for a := byte(0); a < 8; a++ {
		for _, v := range numbers() {
			for _, by := range []uint32{0, 1, 100, 1 << 31, top - 5, top - 11, top - 16, top - 17, top} {
				m, p := made(t, 64, 0, 0)
				write(t, m, p, 10, number(by, 20, a)...)
				c := Cpu{Pc: 10, R: regs(), Base: 64, Size: 128}
				c.R[a] = v
				want := c
				want.Pc = 16
				if v == 0 {
					want.Pc += by
				}
				if got, out := checkStep(t, c, m, p); got != want || out != (Out{}) {
					t.Fatalf("Jz %d of %d, by %d: %v, %v", a, v, by, got, out)
				}
			}
		}
	}
}

func TestJumpsToRegisters(t *testing.T) {
	for a := byte(0); a < 8; a++ {
		for _, v := range numbers() {
			m, p := made(t, 64, 0, 0)
			write(t, m, p, 10, api.Jr, a*16)
			c := Cpu{Pc: 10, R: regs(), Base: 64, Size: 128}
			c.R[a] = v
			want := c
			want.Pc = v
			if got, out := checkStep(t, c, m, p); got != want || out != (Out{}) {
				t.Fatalf("Jr %d of %d: %v, %v", a, v, got, out)
			}
		}
	}
}

func TestGates(t *testing.T) {
	for n := range 256 {
		m, p := made(t, 64, 0, 0)
		write(t, m, p, 10, api.Gate, byte(n))
		c := Cpu{Pc: 10, R: regs(), Base: 64, Size: 128}
		want := c
		want.Pc = 12
		if got, out := checkStep(t, c, m, p); got != want || out != (Out{What: api.Gated, Gate: n}) {
			t.Errorf("Gate %d: %v, %v", n, got, out)
		}
	}
}

// TestEndsChangeNothing holds that what halts, traps, faults or is broken leaves the processor and the memory as they were.
func TestEndsChangeNothing(t *testing.T) {
	for _, x := range []struct {
		name string
		pc   uint32
		code []byte
		what int
	}{
		{"Halt", 64, []byte{0}, api.Halted}, {"Halt at the last byte", 127, []byte{0}, api.Halted},
		{"Div by 0", 70, []byte{6, 0x70}, api.Trapped}, {"Rem by 0", 70, []byte{7, 0x70}, api.Trapped}, {"0 by 0", 70, []byte{6, 0x00}, api.Trapped},
		{"Load", 70, []byte{15, 0x12}, api.Faulted}, {"Load into its own place", 70, []byte{15, 0x22}, api.Faulted}, {"Store", 70, []byte{16, 0x21}, api.Faulted}, {"Store of which three bytes are there", 70, []byte{16, 0x31}, api.Faulted}, {"Load of which one byte is there", 70, []byte{15, 0x14}, api.Faulted},
		{"no place", 0, nil, api.Faulted}, {"a place behind", 128, nil, api.Faulted}, {"a far place", top, nil, api.Faulted},
		{"no operation", 90, []byte{24}, api.Broken}, {"no register", 90, []byte{2, 0x80}, api.Broken}, {"one that is cut", 123, []byte{1, 1, 1, 1, 1}, api.Broken},
	} {
		m, p := made(t, 192, 0x33, 1)
		if x.code != nil {
			write(t, m, p, int(x.pc), x.code...)
		}
		before := p.copied()
		c := Cpu{Pc: x.pc, R: [8]uint32{0, 9, top - 1, 125, 127, 5, 6, 70}, Base: 64, Size: 64}
		got, out := Do(c, m)
		if out != (Out{What: x.what}) || got != c {
			t.Errorf("%s: Do = %v, %v", x.name, got, out)
		}
		checkSame(t, m, before, x.name)
	}
}

func TestNilMemory(t *testing.T) {
	for _, at := range []uint32{0, 1, 64, 65536, 1 << 31, top} {
		c := Cpu{Pc: at, R: regs(), Base: 64, Size: 128}
		if got, out := Do(c, nil); got != c || out != (Out{What: api.Faulted}) {
			t.Errorf("Do(%d, nil) = %v, %v", at, got, out)
		}
		if got, out, n := Run(c, nil, 10); got != c || out != (Out{What: api.Faulted}) || n != 1 {
			t.Errorf("Run(%d, nil, 10) = %v, %v, %d", at, got, out, n)
		}
		if got, out, n := Run(c, nil, 0); got != c || out != (Out{}) || n != 0 {
			t.Errorf("Run(%d, nil, 0) = %v, %v, %d", at, got, out, n)
		}
	}
}

func TestMemoryOfWhichNothingIsThere(t *testing.T) {
	m, _ := made(t, 128, 0)
	c := Cpu{Pc: 64, R: regs()}
	if got, out, n := Run(c, m, 5); got != c || out != (Out{What: api.Faulted}) || n != 1 {
		t.Errorf("Run = %v, %v, %d", got, out, n)
	}
}

// 4.2

func TestRunOfNoSteps(t *testing.T) {
	for _, n := range []int{0, -1, -2, -1000, math.MinInt32, math.MinInt + 1, math.MinInt} {
		for _, op := range []byte{api.Halt, api.Nop, 99} { // whatever would become of a step
			m, p := made(t, 64, op, 0)
			c := Cpu{Pc: 5, R: regs(), Base: 64, Size: 128}
			if got, out, made := Run(c, m, n); got != c || out != (Out{}) || made != 0 {
				t.Errorf("Run of %d steps = %v, %v, %d", n, got, out, made)
			}
			checkSame(t, m, p, "no steps were made")
		}
	}
}

// TestRunAsMany counts: a loop that adds 1 goes on as long as it may.
func TestRunAsMany(t *testing.T) {
	m, p := made(t, 64, 0, 0)
	write(t, m, p, 0, append([]byte{api.Add, 0x12}, number(top-6, api.Jmp)...)...)
	for _, n := range []int{1, 2, 3, 4, 5, 10, 99, 100, 1001} {
		c, out, made := Run(Cpu{R: [8]uint32{2: 1}}, m, n)
		want := Cpu{R: [8]uint32{1: uint32(n+1) / 2, 2: 1}}
		if n%2 == 1 {
			want.Pc = 2
		}
		if c != want || out != (Out{}) || made != n {
			t.Errorf("Run of %d steps = %v, %v, %d, want %v", n, c, out, made, want)
		}
	}
}

// TestRunThatEnds has three Nops ahead of each end: the step that ends is made too.
func TestRunThatEnds(t *testing.T) {
	for _, x := range []struct {
		name string
		code []byte
		pc   uint32
		out  Out
	}{
		{"Halt", []byte{0}, 13, Out{What: api.Halted}},
		{"Gate", []byte{22, 255}, 15, Out{What: api.Gated, Gate: 255}},
		{"Gate 0", []byte{22, 0}, 15, Out{What: api.Gated}},
		{"Load", []byte{15, 0x11}, 13, Out{What: api.Faulted}},
		{"Div", []byte{6, 0x00}, 13, Out{What: api.Trapped}},
		{"no operation", []byte{200}, 13, Out{What: api.Broken}},
	} {
		for _, n := range []int{1, 2, 3, 4, 5, 6, 100, math.MaxInt32, math.MaxInt} {
			m, p := made(t, 64, 0, 0)
			write(t, m, p, 10, append([]byte{23, 23, 23}, x.code...)...)
			c := Cpu{Pc: 10, R: [8]uint32{1: 9999}, Base: 7, Size: 9}
			want, wantOut, wantMade := c, Out{}, n
			want.Pc += uint32(min(n, 3))
			if n > 3 {
				want.Pc, wantOut, wantMade = x.pc, x.out, 4
			}
			got, out, made := Run(c, m, n)
			if got != want || out != wantOut || made != wantMade {
				t.Fatalf("%s, up to %d: %v, %v, %d, want %v, %v, %d", x.name, n, got, out, made, want, wantOut, wantMade)
			}
			checkSame(t, m, p, x.name)
		}
	}
}

// TestRunBehindAnEnd goes on from where a run ended: behind a gate, and again at what changed nothing.
func TestRunBehindAnEnd(t *testing.T) {
	m, p := made(t, 64, api.Nop, 0)
	write(t, m, p, 0, api.Gate, 1, api.Gate, 2, api.Nop, api.Halt)
	c := Cpu{}
	for i, want := range []struct {
		out  Out
		made int
		pc   uint32
	}{
		{Out{What: api.Gated, Gate: 1}, 1, 2}, {Out{What: api.Gated, Gate: 2}, 1, 4}, {Out{What: api.Halted}, 2, 5}, {Out{What: api.Halted}, 1, 5},
	} {
		var out Out
		var made int
		c, out, made = Run(c, m, 50)
		if out != want.out || made != want.made || c.Pc != want.pc {
			t.Errorf("run %d: %v, %v, %d", i, c, out, made)
		}
	}
}

// TestRunIntoTheEndOfTheMemory runs Nops up to the last byte that is there.
func TestRunIntoTheEndOfTheMemory(t *testing.T) {
	m, _ := made(t, 192, api.Nop, 1)
	c, out, n := Run(Cpu{Pc: 100}, m, 1000)
	if c.Pc != 128 || out != (Out{What: api.Faulted}) || n != 29 {
		t.Errorf("Run = %v, %v, %d", c, out, n)
	}
}

// TestRunInPieces holds that steps made in pieces are those made at once.
func TestRunInPieces(t *testing.T) {
	code := append(number(40, 1, 1), 16, 0x12, 3, 0x23, 5, 0x22)
	code = append(code, number(top-10, 19)...)
	m, p := made(t, 64, 0, 0)
	write(t, m, p, 0, code...)
	other, q := made(t, 64, 0, 0)
	write(t, other, q, 0, code...)
	start := Cpu{R: [8]uint32{2: 3, 3: 5}}
	at := start
	for _, n := range []int{1, 2, 3, 0, 5, 8, 13, -4, 21} {
		at, _, _ = Run(at, m, n)
	}
	all, out, n := Run(start, other, 53)
	if at != all || out != (Out{}) || n != 53 {
		t.Errorf("Run = %v, %v, %d, in pieces %v", all, out, n, at)
	}
	b, _ := m.Read(0, 64)
	d, _ := other.Read(0, 64)
	if !bytes.Equal(b, d) {
		t.Errorf("the memory is %v, in pieces %v", d, b)
	}
}

// TestRunLong makes many steps.
func TestRunLong(t *testing.T) {
	m, p := made(t, 64, 0, 0)
	write(t, m, p, 0, append([]byte{api.Sub, 0x12}, append(number(5, 20, 1), number(top-12, api.Jmp)...)...)...)
	write(t, m, p, 13, api.Gate, 3)
	c, out, n := Run(Cpu{R: [8]uint32{1: 20000, 2: 1}}, m, 1000000)
	if c.R[1] != 0 || c.Pc != 15 || out != (Out{What: api.Gated, Gate: 3}) || n != 3*20000 {
		t.Errorf("Run = %v, %v, %d", c, out, n)
	}
}

// 4.3

// TestMasksLieInTheirHalves asks of regions as the host lays them: aligned by their sizes.
func TestMasksLieInTheirHalves(t *testing.T) {
	for _, size := range []uint32{64, 128, 256, 1024, 4096, 65536, 1 << 31} {
		for _, base := range []uint32{0, size, 2 * size, 3 * size, 0 - size, 1 << 31 / size * size} {
			c := Cpu{Base: base, Size: size}
			for _, v := range append(numbers(), base, base+size, base+size/2, base-1) {
				d, e := Data(c, v), Code(c, v)
				if d-base < size/2 || d-base >= size {
					t.Errorf("%d from %d on: Data(%d) = %d", size, base, v, d)
				}
				if e-base >= size/2 || e%32 != 0 {
					t.Errorf("%d from %d on: Code(%d) = %d", size, base, v, e)
				}
				if Data(c, d) != d || Code(c, e) != e {
					t.Errorf("%d from %d on: Data(%d) = %d, Code(%d) = %d", size, base, d, Data(c, d), e, Code(c, e))
				}
			}
		}
	}
}

// TestMasksAreMadeOfThemselves asks of any size, with bases that are multiples of its half, the last one below 2^32 too, and of halves whose rests are all 0, with any base.
func TestMasksAreMadeOfThemselves(t *testing.T) {
	for _, size := range []uint32{0, 1, 2, 3, 4, 5, 7, 30, 31, 33, 61, 62, 63, 65, 66, 67, 129, 131, 1000, 1001, 65535} {
		by := max(size/2, 1)
		bases := []uint32{0, by, 2 * by, 33 * by, (top - size) / by * by}
		if size/2 < 2 {
			bases = append(bases, 5, 31, 1<<31, top-1, top)
		}
		for _, base := range bases {
			c := Cpu{Base: base, Size: size}
			for _, v := range numbers() {
				d := Data(c, v)
				if Data(c, d) != d || size > 1 && (d-base < size/2 || d-base >= size/2*2) {
					t.Errorf("%d from %d on: Data(%d) = %d, and Data of that is %d", size, base, v, d, Data(c, d))
				}
				e := Code(c, v)
				if Code(c, e) != e || size > 1 && e-base >= size/2 || (e-base)%32 != 0 {
					t.Errorf("%d from %d on: Code(%d) = %d, and Code of that is %d", size, base, v, e, Code(c, e))
				}
			}
		}
	}
}

// TestCodeOfSmallHalves: below 32 bytes there is one bundle, whatever the base, so each mask is made of itself.
func TestCodeOfSmallHalves(t *testing.T) {
	for size := uint32(0); size < 66; size++ {
		for _, base := range []uint32{0, 1, 31, 64, 1000, 1 << 31, top - 40, top} {
			c := Cpu{Base: base, Size: size}
			for _, v := range numbers() {
				if Code(c, v) != base || Code(c, Code(c, v)) != base {
					t.Errorf("%d from %d on: Code(%d) = %d", size, base, v, Code(c, v))
				}
			}
		}
	}
}

// row answers numbers that follow each other by a rule, so that each run of the tests has the same.
func row(seed uint64) func() uint32 {
	return func() uint32 {
		seed = seed*6364136223846793005 + 1442695040888963407
		return uint32(seed >> 32)
	}
}

// mixed answers a memory and a plain one with bytes of a row, in which operations, small registers and places in the memory are common.
func mixed(t *testing.T, next func() uint32) (*mem.Mem, *plain) {
	m, p := made(t, 512, 0, 0, 1, 2, 4, 5, 7)
	for at := range p.b {
		if !p.is[at] {
			continue
		}
		b := byte(next())
		switch next() % 4 {
		case 0, 1:
			b %= 24
		case 2:
			b &= 0x77
		}
		write(t, m, p, at, b)
	}
	return m, p
}

// spread answers a processor of a row.
func spread(next func() uint32) Cpu {
	c := Cpu{Pc: next() % 540, Base: next() % 8 * 64, Size: next() % 300}
	for i := range c.R {
		c.R[i] = next()
		switch next() % 6 {
		case 0:
			c.R[i] = 0
		case 1, 2, 3:
			c.R[i] %= 530
		}
	}
	return c
}

// TestMixedSteps holds many steps, of bytes of all kinds, against a machine by the chapter's words, and each against what a step may change.
func TestMixedSteps(t *testing.T) {
	next := row(4)
	seen := map[string]int{}
	for range 60 {
		m, p := mixed(t, next)
		for range 300 {
			c, before := spread(next), p.copied()
			got, out := checkStep(t, c, m, p)
			checkOneChange(t, c, got, before, p)
			if out.What == api.Runs || out.What == api.Gated {
				op, _, _, _, _ := before.read(int64(c.Pc))
				seen[fmt.Sprintf("operation %d", op)]++
			}
			seen[fmt.Sprintf("What %d", out.What)]++
		}
	}
	for op := api.Movi; op <= api.Nop; op++ {
		if seen[fmt.Sprintf("operation %d", op)] < 10 {
			t.Errorf("the operation %d was met %d times", op, seen[fmt.Sprintf("operation %d", op)])
		}
	}
	for what := api.Runs; what <= api.Broken; what++ {
		if seen[fmt.Sprintf("What %d", what)] < 10 {
			t.Errorf("%d became of a step %d times", what, seen[fmt.Sprintf("What %d", what)])
		}
	}
}

// checkOneChange holds that a step changed one register, or four bytes that follow each other, at most, and the region not at all.
func checkOneChange(t *testing.T, c, d Cpu, before, after *plain) {
	t.Helper()
	changed := 0
	for i := range c.R {
		if c.R[i] != d.R[i] {
			changed++
		}
	}
	first, last := -1, -1
	for i := range before.b {
		if before.b[i] != after.b[i] {
			if first < 0 {
				first = i
			}
			last = i
		}
	}
	if first >= 0 {
		changed++
	}
	if changed > 1 || last-first > 3 || c.Base != d.Base || c.Size != d.Size {
		t.Fatalf("a step of %v came to %v, with bytes %d to %d changed", c, d, first, last)
	}
}

// TestMixedRuns holds runs against steps one by one.
func TestMixedRuns(t *testing.T) {
	next := row(42)
	for range 400 {
		m, p := mixed(t, next)
		c, n := spread(next), int(next()%40)-2
		want, wantOut, wantMade := c, Out{}, 0
		for wantMade < n && wantOut.What == api.Runs {
			want, wantOut = p.do(want)
			wantMade++
		}
		got, out, made := Run(c, m, n)
		if got != want || out != wantOut || made != wantMade {
			t.Fatalf("Run(%v, %d) = %v, %v, %d, want %v, %v, %d", c, n, got, out, made, want, wantOut, wantMade)
		}
		checkSame(t, m, p, "a run")
	}
}

// TestTheSameAgain holds that a step hangs on the processor and the memory alone, and that the processor handed in stays as it is.
func TestTheSameAgain(t *testing.T) {
	m, p := made(t, 64, 0, 0)
	write(t, m, p, 0, number(5, 1, 1)...)
	c := Cpu{R: regs()}
	first, out := Do(c, m)
	second, again := Do(c, m)
	if first != second || out != again || c != (Cpu{R: regs()}) || first.R[1] != 5 {
		t.Errorf("Do = %v, %v, then %v, %v", first, out, second, again)
	}
}
