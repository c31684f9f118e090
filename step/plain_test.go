package step

import (
	"fmt"
	"testing"

	"corral/api"
	"corral/mem"
)

const (
	top  = 1<<32 - 1
	wrap = int64(1) << 32
)

// plain is a machine by the words of chapters 1 to 4, without the layers below: bytes, of which those of is are there.
type plain struct {
	is []bool
	b  []byte
}

// has tells whether n bytes from at on are there.
func (p *plain) has(at int64, n int) bool {
	for i := at; i < at+int64(n); i++ {
		if i < 0 || i >= int64(len(p.is)) || !p.is[i] {
			return false
		}
	}
	return true
}

// read answers the instruction at a place: its operation, A, B and number, and how many bytes it has, 0 if there is none.
func (p *plain) read(at int64) (op, a, b int, imm uint32, size int) {
	var v [6]byte
	n := 0
	for n < 6 && p.has(at+int64(n), 1) {
		v[n] = p.b[at+int64(n)]
		n++
	}
	op, a, b, size = int(v[0]), 0, 0, 2
	long := uint32(v[1]) + uint32(v[2])<<8 + uint32(v[3])<<16 + uint32(v[4])<<24
	behind := uint32(v[2]) + uint32(v[3])<<8 + uint32(v[4])<<16 + uint32(v[5])<<24
	switch {
	case op == 0 || op == 23:
		size = 1
	case op == 1 || op == 20:
		a, imm, size = int(v[1]), behind, 6
	case op >= 2 && op <= 16:
		a, b = int(v[1])/16, int(v[1])%16
	case op == 17 || op == 18 || op == 21:
		a, b = int(v[1])/16, int(v[1])%16
		if b != 0 {
			size = 0
		}
	case op == 19:
		imm, size = long, 5
	case op == 22:
		imm = uint32(v[1])
	default:
		size = 0
	}
	if a > 7 || b > 7 || size > n {
		size = 0
	}
	return op, a, b, imm, size
}

// signed reads a number with a sign.
func signed(a uint32) int64 {
	if a >= 1<<31 {
		return int64(a) - wrap
	}
	return int64(a)
}

// low answers a number's rest by 2^32.
func low(n int64) uint32 { return uint32((n%wrap + wrap) % wrap) }

// reckoned answers what Add to Eq make of two numbers, in 64 bits; false, if it is by 0.
func reckoned(op int, a, b uint32) (uint32, bool) {
	x, y := int64(a), int64(b)
	switch op {
	case 3:
		return low(x + y), true
	case 4:
		return low(x - y), true
	case 5:
		return low(signed(a) * signed(b)), true
	case 6, 7:
		if b == 0 {
			return 0, false
		}
		if op == 6 {
			return low(signed(a) / signed(b)), true
		}
		return low(signed(a) % signed(b)), true
	case 8, 9, 10:
		var made uint32
		for i := range 32 {
			p, q := a>>i&1, b>>i&1
			made += [...]uint32{p * q, p + q - p*q, (p + q) % 2}[op-8] << i
		}
		return made, true
	case 11:
		for range y % 32 {
			x = x * 2 % wrap
		}
		return low(x), true
	case 12:
		for range y % 32 {
			x /= 2
		}
		return low(x), true
	case 13:
		if signed(a) < signed(b) {
			return 1, true
		}
		return 0, true
	}
	if a == b {
		return 1, true
	}
	return 0, true
}

// maskedD answers what MaskD makes of a number, maskedC what MaskC makes of it.
func maskedD(c Cpu, v uint32) uint32 {
	half := int64(c.Size) / 2
	if half == 0 {
		return c.Base
	}
	return low(int64(v)%half + int64(c.Base) + half)
}

func maskedC(c Cpu, v uint32) uint32 {
	half := int64(c.Size) / 2
	if half == 0 {
		return c.Base
	}
	return low(int64(v)%half/32*32 + int64(c.Base))
}

// do makes a step.
func (p *plain) do(c Cpu) (Cpu, Out) {
	if !p.has(int64(c.Pc), 1) {
		return c, Out{What: 3}
	}
	op, a, b, imm, size := p.read(int64(c.Pc))
	if size == 0 {
		return c, Out{What: 5}
	}
	d := c
	d.Pc = low(int64(c.Pc) + int64(size))
	switch op {
	case 0:
		return c, Out{What: 1}
	case 1:
		d.R[a] = imm
	case 2:
		d.R[a] = c.R[b]
	case 15:
		at := int64(c.R[b])
		if !p.has(at, 4) {
			return c, Out{What: 3}
		}
		d.R[a] = uint32(p.b[at]) + uint32(p.b[at+1])<<8 + uint32(p.b[at+2])<<16 + uint32(p.b[at+3])<<24
	case 16:
		at, v := int64(c.R[a]), c.R[b]
		if !p.has(at, 4) {
			return c, Out{What: 3}
		}
		p.b[at], p.b[at+1], p.b[at+2], p.b[at+3] = byte(v), byte(v>>8), byte(v>>16), byte(v>>24)
	case 17:
		d.R[a] = maskedD(c, c.R[a])
	case 18:
		d.R[a] = maskedC(c, c.R[a])
	case 19:
		d.Pc = low(int64(d.Pc) + int64(imm))
	case 20:
		if c.R[a] == 0 {
			d.Pc = low(int64(d.Pc) + int64(imm))
		}
	case 21:
		d.Pc = c.R[a]
	case 22:
		return d, Out{What: 2, Gate: int(imm)}
	case 23:
	default:
		v, ok := reckoned(op, c.R[a], c.R[b])
		if !ok {
			return c, Out{What: 4}
		}
		d.R[a] = v
	}
	return d, Out{}
}

// copied answers another one that is alike.
func (p *plain) copied() *plain {
	return &plain{append([]bool(nil), p.is...), append([]byte(nil), p.b...)}
}

// made answers a memory of n bytes and a plain one, of which these zones are there, all bytes being fill.
func made(t *testing.T, n int, fill byte, zones ...int) (*mem.Mem, *plain) {
	t.Helper()
	m, e := mem.New(n)
	if e != api.OK {
		t.Fatalf("New(%d) = %d", n, e)
	}
	p := &plain{make([]bool, n), make([]byte, n)}
	for _, z := range zones {
		m.Set(z*64, 64, true)
		for i := z * 64; i < z*64+64; i++ {
			p.is[i] = true
			write(t, m, p, i, fill)
		}
	}
	return m, p
}

// write writes bytes into both of them.
func write(t *testing.T, m *mem.Mem, p *plain, at int, b ...byte) {
	t.Helper()
	if !m.Write(at, b) {
		t.Fatalf("Write(%d, %v) = false", at, b)
	}
	copy(p.b[at:], b)
}

// checkSame holds all bytes of a memory against a plain one's.
func checkSame(t *testing.T, m *mem.Mem, p *plain, after string) {
	t.Helper()
	for at := 0; at < len(p.b); at += 64 {
		b, ok := m.Read(at, 64)
		if ok != p.is[at] || ok && string(b) != string(p.b[at:at+64]) {
			t.Fatalf("%s: Read(%d, 64) = %v, %v, want %v, %v", after, at, b, ok, p.b[at:at+64], p.is[at])
		}
	}
}

// checkStep makes a step of both, and holds them against each other; it answers what became of it.
func checkStep(t *testing.T, c Cpu, m *mem.Mem, p *plain) (Cpu, Out) {
	t.Helper()
	want, wantOut := p.do(c)
	got, out := Do(c, m)
	about := fmt.Sprintf("Do(%v)", c)
	if got != want || out != wantOut {
		t.Fatalf("%s = %v, %v, want %v, %v", about, got, out, want, wantOut)
	}
	checkSame(t, m, p, about)
	return got, out
}

// numbers answers numbers at the edges.
func numbers() []uint32 {
	return []uint32{0, 1, 2, 3, 5, 7, 31, 32, 33, 63, 64, 100, 127, 128, 255, 256, 1000, 65535, 65536, 1<<31 - 2, 1<<31 - 1, 1 << 31, 1<<31 + 1, 1<<31 + 5, top - 64, top - 31, top - 6, top - 2, top - 1, top}
}

// regs answers registers that are unlike each other.
func regs() [8]uint32 {
	return [8]uint32{1000, 1, 1 << 31, 77, top, 12345, 64, top - 8}
}
