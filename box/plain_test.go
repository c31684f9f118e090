package box

import (
	"math"
	"slices"
	"testing"

	"corral/api"
	"corral/gate"
	"corral/image"
	"corral/isa"
	"corral/mem"
	"corral/rule"
	"corral/scan"
	"corral/slab"
	"corral/step"
	"corral/verify"
)

// This file has the chapter's words written out once more, and what the tests build of code, memories and sandboxes.

// sizes are all those that a region may have.
var sizes = []int{128, 256, 512, 1024, 2048, 4096, 8192, 16384}

// noSizes are such as no region may have.
var noSizes = []int{0, 1, 2, 3, 31, 32, 63, 64, 65, 96, 127, 129, 130, 192, 255, 257, 320, 384, 16383, 16385, 24576, 32768, 65536, 1 << 31, 1 << 32, 1<<32 + 128, 1<<32 + 256, 1 << 62, math.MaxInt - 1, math.MaxInt, -1, -2, -64, -127, -128, -256, -16384, -1 << 31, -1 << 32, -1<<32 + 256, -1 << 62, math.MinInt + 1, math.MinInt}

// regions answers regions of bases and sizes.
func regions(l [][2]int) []slab.Region {
	var rs []slab.Region
	for _, x := range l {
		rs = append(rs, slab.Region{Base: x[0], Size: x[1]})
	}
	return rs
}

// shot is what a memory was like: each zone's bytes, nil where it isn't there.
type shot [][]byte

// shotOf answers what a memory is like.
func shotOf(m *mem.Mem) shot {
	var s shot
	for at := 0; at < m.Size(); at += 64 {
		b, _ := m.Read(at, 64)
		s = append(s, b)
	}
	return s
}

// copied answers one that shares nothing with another one.
func (s shot) copied() shot {
	c := make(shot, len(s))
	for i, b := range s {
		c[i] = slices.Clone(b)
	}
	return c
}

// same tells whether two are alike.
func (s shot) same(other shot) bool {
	return slices.EqualFunc(s, other, func(a, b []byte) bool { return (a == nil) == (b == nil) && slices.Equal(a, b) })
}

// filled answers a memory of so many bytes whose zones in a region, and around it, are there or not by turns, with bytes in them.
func filled(t *testing.T, n int, by int) *mem.Mem {
	t.Helper()
	m, e := mem.New(n)
	if e != 0 {
		t.Fatalf("mem.New(%d) = %d", n, e)
	}
	for at := 0; at < n; at += 64 {
		if by > 0 && at/64%by == 0 {
			continue
		}
		b := make([]byte, 64)
		for i := range b {
			b[i] = byte(at/64*5 + i*3 + 1)
		}
		m.Set(at, 64, true)
		m.Write(at, b)
	}
	return m
}

// code answers instructions in bundles.
func code(l ...api.Ins) []byte { return scan.Pad(l) }

// nops answers code that does nothing, of so many bytes.
func nops(n int) []byte {
	b := make([]byte, n)
	for i := range b {
		b[i] = api.Nop
	}
	return b
}

// row answers so many bytes, each above 0 and unlike those around it.
func row(n int) []byte {
	b := make([]byte, n)
	for i := range b {
		b[i] = byte(i%251 + 1)
	}
	return b
}

// Instructions.
func movi(a int, v uint32) api.Ins { return api.Ins{Op: api.Movi, A: a, Imm: v} }
func ask(n uint32) api.Ins         { return api.Ins{Op: api.Gate, Imm: n} }
func do(op, a, b int) api.Ins      { return api.Ins{Op: op, A: a, B: b} }
func jmp(by int32) api.Ins         { return api.Ins{Op: api.Jmp, Imm: uint32(by)} }

// alike tells whether two sandboxes are; nil and an empty list are one.
func alike(a, b Box) bool {
	return a.C == b.C && a.Is == b.Is && a.What == b.What && slices.Equal(a.W.Replies, b.W.Replies) && a.W.Taken == b.W.Taken && slices.Equal(a.W.Trace, b.W.Trace) && a.W.Over == b.W.Over && a.W.Code == b.W.Code
}

// copied answers a sandbox that shares nothing with another one.
func copied(b Box) Box {
	b.W.Replies, b.W.Trace = slices.Clone(b.W.Replies), slices.Clone(b.W.Trace)
	return b
}

// plainSlice does what the chapter says, step by step.
func plainSlice(m *mem.Mem, b Box, n int) (Box, int) {
	b = copied(b)
	made := 0
	for made < n && b.Is == 0 {
		c, out := step.Do(b.C, m)
		b.C = c
		made++
		if out.What == api.Halted || out.What == api.Faulted || out.What == api.Trapped || out.What == api.Broken {
			b.Is = 2
			b.What = out.What
		}
		if out.What == api.Gated {
			b.C, b.W = gate.Do(b.C, m, b.W, out.Gate)
			if out.Gate == 0 {
				b.Is = 1
			}
			if out.Gate == 4 {
				break
			}
		}
	}
	return b, made
}

// twin answers a memory that is like another one.
func twin(t *testing.T, m *mem.Mem) *mem.Mem {
	t.Helper()
	if m == nil {
		return nil
	}
	other, e := mem.New(m.Size())
	if e != 0 {
		t.Fatalf("mem.New(%d) = %d", m.Size(), e)
	}
	for i, b := range shotOf(m) {
		if b != nil {
			other.Set(64*i, 64, true)
			other.Write(64*i, b)
		}
	}
	return other
}

// checkNew holds what New makes, and what becomes of the memory by that.
func checkNew(t *testing.T, name string, m *mem.Mem, r slab.Region, x image.Image, replies []uint32) Box {
	t.Helper()
	want := shotOf(m)
	for i := range want {
		if at := 64 * i; at >= r.Base && at < r.Base+r.Size {
			want[i] = make([]byte, 64)
		}
	}
	for i, v := range x.Code {
		want[(r.Base+i)/64][(r.Base+i)%64] = v
	}
	for i, v := range x.Data {
		at := r.Base + r.Size/2 + i
		want[at/64][at%64] = v
	}
	b, e := New(m, r, x, replies)
	if e != 0 {
		t.Fatalf("%s: New in %v of %d bytes of code, %d of data = %d", name, r, len(x.Code), len(x.Data), e)
	}
	if !alike(b, Box{C: step.Cpu{Pc: uint32(r.Base), Base: uint32(r.Base), Size: uint32(r.Size)}, W: gate.World{Replies: replies}}) {
		t.Errorf("%s: New in %v = %v", name, r, b)
	}
	if !shotOf(m).same(want) {
		t.Errorf("%s: by New in %v of %d bytes of code, %d of data, the memory is not as it should be", name, r, len(x.Code), len(x.Data))
	}
	return b
}

// checkNoNew holds that New answers an error, no sandbox beside it, and changes nothing.
func checkNoNew(t *testing.T, name string, m *mem.Mem, r slab.Region, x image.Image, want api.Errno) {
	t.Helper()
	before := shotOf(m)
	b, e := New(m, r, x, []uint32{5, 6})
	if e != want {
		t.Errorf("%s: New in %v of %d bytes of code, %d of data = %d, want %d", name, r, len(x.Code), len(x.Data), e, want)
	}
	if !alike(b, Box{}) {
		t.Errorf("%s: beside an error there is %v", name, b)
	}
	if !shotOf(m).same(before) {
		t.Errorf("%s: a New that is refused changed the memory", name)
	}
}

// made answers a sandbox that New makes.
func made(t *testing.T, m *mem.Mem, r slab.Region, x image.Image, replies []uint32) Box {
	t.Helper()
	b, e := New(m, r, x, replies)
	if e != 0 {
		t.Fatalf("New in %v of %d bytes of code, %d of data = %d", r, len(x.Code), len(x.Data), e)
	}
	return b
}

// alone answers a memory with one region of 256 bytes, and a sandbox in it.
func alone(t *testing.T, data []byte, replies []uint32, l ...api.Ins) (*mem.Mem, Box) {
	t.Helper()
	m, _ := mem.New(1024)
	return m, made(t, m, slab.Region{Base: 256, Size: 256}, image.Image{Code: code(l...), Data: data}, replies)
}

// raw answers such a one whose code, which may be unsafe, was laid behind New.
func raw(t *testing.T, replies []uint32, l ...api.Ins) (*mem.Mem, Box) {
	t.Helper()
	m, b := alone(t, []byte{1, 2, 3, 4}, replies, api.Ins{})
	var bytes []byte
	for _, x := range l {
		bytes = append(bytes, isa.Lay(x)...)
	}
	m.Write(256, bytes)
	return m, b
}

// checkSlice holds what Slice answers, and does to the memory, against the chapter's words, and that it leaves the sandbox that it is handed as it was.
func checkSlice(t *testing.T, name string, m *mem.Mem, b Box, n int) (Box, int) {
	t.Helper()
	before, other := copied(b), twin(t, m)
	want, steps := plainSlice(other, b, n)
	got, made := Slice(m, b, n)
	if !alike(got, want) || made != steps {
		t.Errorf("%s: Slice(%v, %d) = %v, %d, want %v, %d", name, b, n, got, made, want, steps)
	}
	if !alike(b, before) {
		t.Errorf("%s: Slice(%v, %d) changed the sandbox handed in to %v", name, before, n, b)
	}
	if !shotOf(m).same(shotOf(other)) {
		t.Errorf("%s: by Slice(%v, %d) the memory is not as it should be", name, b, n)
	}
	return got, made
}

// draws are numbers that follow each other by a rule, so that each run of the tests has the same.
type draws uint32

// below draws one from 0 to below n.
func (d *draws) below(n int) int {
	*d = *d*1664525 + 1013904223
	return int(uint64(*d) * uint64(n) >> 32)
}

// number draws one of 32 bits: an edge, one near an edge, or any.
func (d *draws) number() uint32 {
	edges := []uint32{0, 1, 4, 32, 64, 128, 1 << 16, 1 << 31}
	switch d.below(3) {
	case 0:
		return edges[d.below(len(edges))]
	case 1:
		return edges[d.below(len(edges))] + uint32(d.below(9)) - 4
	}
	return uint32(d.below(1 << 32))
}

// bytes draws so many.
func (d *draws) bytes(n int) []byte {
	b := make([]byte, n)
	for i := range b {
		b[i] = byte(d.below(256))
	}
	return b
}

// piece draws some instructions that stand together.
func (d *draws) piece() []api.Ins {
	a, b := d.below(8), d.below(8)
	switch d.below(16) {
	case 0, 1:
		return []api.Ins{{Op: api.MaskD, A: b}, do(api.Load, a, b)}
	case 2, 3, 4:
		return []api.Ins{{Op: api.MaskD, A: a}, do(api.Store, a, b)}
	case 5:
		return []api.Ins{{Op: api.MaskC, A: a}, {Op: api.Jr, A: a}}
	case 6:
		return []api.Ins{jmp(0)}
	case 7:
		return []api.Ins{{Op: api.Jz, A: a}}
	case 8, 9:
		return []api.Ins{movi(a, d.number())}
	case 10, 11, 12:
		return []api.Ins{ask(uint32(1 + d.below(4)))}
	case 13:
		if d.below(3) > 0 {
			return []api.Ins{do(api.Mov, a, b)}
		}
		return []api.Ins{ask(0)}
	}
	return []api.Ins{do([]int{2, 3, 4, 5, 6, 7, 8, 9, 10, 11, 12, 13, 14, 23, 0, 3, 3, 10}[d.below(18)], a, b)}
}

// code draws safe code of at most so many bytes, a multiple of 32.
func (d *draws) code(most int) []byte {
	var c []byte
	for {
		var laid []byte
		for _, x := range d.piece() {
			if x.Op == api.Nop || x.Op == api.Halt {
				x = api.Ins{Op: x.Op}
			}
			laid = append(laid, isa.Lay(x)...)
		}
		for len(c)%32+len(laid) > 32 {
			c = append(c, api.Nop)
		}
		if len(c)+len(laid) > most || len(c) > 0 && d.below(40) == 0 {
			break
		}
		c = append(c, laid...)
	}
	for len(c)%32 > 0 {
		c = append(c, api.Nop)
	}
	return d.aimed(c)
}

// aimed gives code's jumps goals that may be.
func (d *draws) aimed(c []byte) []byte {
	starts, _ := scan.Starts(c)
	l, _ := scan.Listing(c)
	seconds, _ := rule.Seconds(c)
	goals := slices.DeleteFunc(slices.Clone(starts), func(at int) bool { return seconds[at] })
	for i, at := range starts {
		if x := l[i]; x.Op == api.Jmp || x.Op == api.Jz {
			x.Imm = uint32(goals[d.below(len(goals))] - at - isa.Size(x.Op))
			copy(c[at:], isa.Lay(x))
		}
	}
	return c
}

// region draws one of at most 2048 bytes in a memory of so many bytes, from a multiple of its size on, with guards.
func (d *draws) region(n int) slab.Region {
	size := sizes[d.below(5)]
	return slab.Region{Base: size * (1 + d.below((n-64)/size-1)), Size: size}
}

// image draws a safe one that fits a region of a size.
func (d *draws) image(t *testing.T, size int) image.Image {
	t.Helper()
	x := image.Image{Code: d.code(size/2 - 32), Data: d.bytes(d.below(size/2 + 1))}
	if e := verify.Code(x.Code); e != 0 {
		t.Fatalf("code drawn is not safe, %d: %v", e, x.Code)
	}
	return x
}

// replies draws some.
func (d *draws) replies() []uint32 {
	var l []uint32
	for range d.below(9) {
		l = append(l, d.number())
	}
	return l
}
