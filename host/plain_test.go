package host

import (
	"math"
	"slices"
	"testing"

	"corral/api"
	"corral/box"
	"corral/gate"
	"corral/image"
	"corral/isa"
	"corral/mem"
	"corral/rule"
	"corral/scan"
	"corral/slab"
	"corral/verify"
)

// This file has the chapter's words written out once more, and what the tests build of code, images and hosts.

// sizes are all those that a region may have.
var sizes = []int{128, 256, 512, 1024, 2048, 4096, 8192, 16384}

// noSizes are such as no region may have.
var noSizes = []int{0, 1, 2, 3, 31, 32, 63, 64, 65, 96, 127, 129, 130, 192, 255, 257, 320, 384, 16383, 16385, 24576, 32768, 65536, 1 << 31, 1 << 32, 1<<32 + 128, 1<<32 + 256, 1 << 62, math.MaxInt - 1, math.MaxInt, -1, -2, -64, -127, -128, -256, -16384, -1 << 31, -1 << 32, -1<<32 + 256, -1 << 62, math.MinInt + 1, math.MinInt}

// noNumbers are such as no sandbox has, whatever is loaded.
var noNumbers = []int{-1, -2, -16, 16, 17, 32, 255, 256, 1 << 31, 1 << 32, 1<<32 + 1, -1 << 31, -1 << 32, math.MaxInt, math.MinInt}

// few are numbers of steps of which none is made.
var few = []int{0, -1, -2, -5, -1 << 31, -1 << 32, -1<<32 + 7, math.MinInt + 1, math.MinInt}

// plain is a host in which each sandbox has a memory of its own, and is alone there.
type plain struct {
	n     int
	boxes [16]*lone
}

// lone is a sandbox, its memory, and its region.
type lone struct {
	m *mem.Mem
	r slab.Region
	b box.Box
}

// near tells whether a byte of a region lies from a place on, up to another one.
func (p *plain) near(from, to int) bool {
	for _, l := range p.boxes {
		if l != nil && from < l.r.Base+l.r.Size && to > l.r.Base {
			return true
		}
	}
	return false
}

// there tells whether a region has a byte.
func (p *plain) there(at int) bool {
	for _, l := range p.boxes {
		if l != nil && at >= l.r.Base && at < l.r.Base+l.r.Size {
			return true
		}
	}
	return false
}

// regions answers all, rising.
func (p *plain) regions() []slab.Region {
	var rs []slab.Region
	for _, l := range p.boxes {
		if l != nil {
			rs = append(rs, l.r)
		}
	}
	slices.SortFunc(rs, func(a, b slab.Region) int { return a.Base - b.Base })
	return rs
}

// place answers the least base that a region of a size may have, and 0 if there is none.
func (p *plain) place(size int) int {
	for base := size; base+size+64 <= p.n; base += size {
		if !p.near(base-64, base+size+64) {
			return base
		}
	}
	return 0
}

// load loads one.
func (p *plain) load(t *testing.T, b []byte, size int, replies []uint32) (int, api.Errno) {
	t.Helper()
	x, e := verify.Image(b)
	if e != 0 {
		return 0, e
	}
	if !slices.Contains(sizes, size) {
		return 0, api.ErrArg
	}
	if len(x.Code)+32 > size/2 || len(x.Data) > size/2 {
		return 0, api.ErrSize
	}
	base := p.place(size)
	for id, l := range p.boxes {
		if l != nil {
			continue
		}
		if base == 0 {
			break
		}
		r := slab.Region{Base: base, Size: size}
		m, _ := mem.New(p.n)
		made, e := box.New(m, r, x, replies)
		if e != 0 {
			t.Fatalf("box.New in %v = %d", r, e)
		}
		p.boxes[id] = &lone{m, r, made}
		return id, 0
	}
	return 0, api.ErrSpace
}

// find answers a sandbox, and nil if there is none.
func (p *plain) find(id int) *lone {
	if id < 0 || id > 15 {
		return nil
	}
	return p.boxes[id]
}

// both are a host and the plain one, to which the same is done.
type both struct {
	t *testing.T
	h *Host
	p *plain
}

// hosts answers both, of so many bytes.
func hosts(t *testing.T, n int) both {
	t.Helper()
	h, e := New(n)
	if e != 0 {
		t.Fatalf("New(%d) = %d", n, e)
	}
	x := both{t, h, &plain{n: n}}
	x.check("New")
	return x
}

// alike tells whether two sandboxes are; nil and an empty list are one.
func alike(a, b box.Box) bool {
	return a.C == b.C && a.Is == b.Is && a.What == b.What && slices.Equal(a.W.Replies, b.W.Replies) && a.W.Taken == b.W.Taken && slices.Equal(a.W.Trace, b.W.Trace) && a.W.Over == b.W.Over && a.W.Code == b.W.Code
}

// check holds all that the host tells against what the plain one has.
func (x both) check(name string) {
	x.t.Helper()
	if got, want := x.h.Regions(), x.p.regions(); !slices.Equal(got, want) {
		x.t.Fatalf("%s: Regions() = %v, want %v", name, got, want)
	}
	for at := -64; at < x.p.n+128; at += 64 {
		x.checkThere(name, at)
		x.checkThere(name, at+63)
	}
	for id := -1; id < 17; id++ {
		x.checkBox(name, id)
	}
}

// checkThere holds whether a byte is there.
func (x both) checkThere(name string, at int) {
	x.t.Helper()
	if got, want := x.h.There(at), x.p.there(at); got != want {
		x.t.Fatalf("%s: There(%d) = %t, the regions are %v", name, at, got, x.p.regions())
	}
}

// checkBox holds a sandbox, and its bytes.
func (x both) checkBox(name string, id int) {
	x.t.Helper()
	b, e := x.h.Box(id)
	bytes, f := x.h.Bytes(id)
	l := x.p.find(id)
	if l == nil {
		if e != api.ErrNone || f != api.ErrNone || !alike(b, box.Box{}) || len(bytes) != 0 {
			x.t.Fatalf("%s: Box(%d) = %v, %d, Bytes = %v, %d, but there is none", name, id, b, e, bytes, f)
		}
		return
	}
	if e != 0 || !alike(b, l.b) {
		x.t.Fatalf("%s: Box(%d) = %v, %d, want %v", name, id, b, e, l.b)
	}
	if own, _ := l.m.Read(l.r.Base, l.r.Size); f != 0 || !slices.Equal(bytes, own) {
		x.t.Fatalf("%s: Bytes(%d) = %v, %d, want %v", name, id, bytes, f, own)
	}
}

// load loads in both, and answers what the host's answer is, which is to be the plain one's.
func (x both) load(name string, b []byte, size int, replies []uint32) (int, api.Errno) {
	x.t.Helper()
	id, e := x.h.Load(b, size, replies)
	want, f := x.p.load(x.t, b, size, replies)
	if id != want || e != f {
		x.t.Fatalf("%s: Load of %d bytes in %d = %d, %d, want %d, %d", name, len(b), size, id, e, want, f)
	}
	x.check(name)
	return id, e
}

// loaded loads in both what is to be loaded, and answers the number.
func (x both) loaded(name string, b []byte, size int, replies ...uint32) int {
	x.t.Helper()
	id, e := x.load(name, b, size, replies)
	if e != 0 {
		x.t.Fatalf("%s: Load of %d bytes in %d = %d, %d", name, len(b), size, id, e)
	}
	return id
}

// refused has Load answer an error, with 0 beside it, and change nothing.
func (x both) refused(name string, b []byte, size int, want api.Errno) {
	x.t.Helper()
	if id, e := x.load(name, b, size, []uint32{5}); id != 0 || e != want {
		x.t.Fatalf("%s: Load of %d bytes in %d = %d, %d, want %d", name, len(b), size, id, e, want)
	}
}

// run runs in both, and answers how many steps were made.
func (x both) run(name string, id, n int) int {
	x.t.Helper()
	made, e := x.h.Run(id, n)
	want, f := 0, api.Errno(api.ErrNone)
	if l := x.p.find(id); l != nil {
		l.b, want = box.Slice(l.m, l.b, n)
		f = 0
	}
	if made != want || e != f {
		x.t.Fatalf("%s: Run(%d, %d) = %d, %d, want %d, %d", name, id, n, made, e, want, f)
	}
	x.check(name)
	return made
}

// kill kills in both.
func (x both) kill(name string, id int) {
	x.t.Helper()
	want := api.Errno(api.ErrNone)
	if x.p.find(id) != nil {
		x.p.boxes[id], want = nil, 0
	}
	if e := x.h.Kill(id); e != want {
		x.t.Fatalf("%s: Kill(%d) = %d, want %d", name, id, e, want)
	}
	x.check(name)
}

// laid answers an image as bytes.
func laid(t *testing.T, code, data []byte) []byte {
	t.Helper()
	b, e := image.Lay(image.Image{Code: code, Data: data})
	if e != 0 {
		t.Fatalf("image.Lay of %d bytes of code, %d of data = %d", len(code), len(data), e)
	}
	return b
}

// small answers an image of instructions, without data.
func small(t *testing.T, l ...api.Ins) []byte { return laid(t, scan.Pad(l), nil) }

// nops answers code that does nothing, of so many bytes.
func nops(n int) []byte {
	b := make([]byte, n)
	for i := range b {
		b[i] = api.Nop
	}
	return b
}

// row answers so many bytes, each above 0 and unlike those around it.
func row(n int) []byte {
	b := make([]byte, n)
	for i := range b {
		b[i] = byte(i%251 + 1)
	}
	return b
}

// Instructions.
func movi(a int, v uint32) api.Ins { return api.Ins{Op: api.Movi, A: a, Imm: v} }
func ask(n uint32) api.Ins         { return api.Ins{Op: api.Gate, Imm: n} }
func do(op, a, b int) api.Ins      { return api.Ins{Op: op, A: a, B: b} }
func mask(a int) api.Ins           { return api.Ins{Op: api.MaskD, A: a} }
func jmp(by int32) api.Ins         { return api.Ins{Op: api.Jmp, Imm: uint32(by)} }

// told answers the lines of a sandbox's events.
func (x both) told(id int) string {
	x.t.Helper()
	b, e := x.h.Box(id)
	if e != 0 {
		x.t.Fatalf("Box(%d) = %d", id, e)
	}
	return gate.Text(b.W.Trace)
}

// draws are numbers that follow each other by a rule, so that each run of the tests has the same.
type draws uint32

// below draws one from 0 to below n.
func (d *draws) below(n int) int {
	*d = *d*1664525 + 1013904223
	return int(uint64(*d) * uint64(n) >> 32)
}

// number draws one of 32 bits: an edge, one near an edge, or any.
func (d *draws) number() uint32 {
	edges := []uint32{0, 1, 4, 32, 64, 128, 1 << 16, 1 << 31}
	switch d.below(3) {
	case 0:
		return edges[d.below(len(edges))]
	case 1:
		return edges[d.below(len(edges))] + uint32(d.below(9)) - 4
	}
	return uint32(d.below(1 << 32))
}

// bytes draws so many.
func (d *draws) bytes(n int) []byte {
	b := make([]byte, n)
	for i := range b {
		b[i] = byte(d.below(256))
	}
	return b
}

// replies draws some.
func (d *draws) replies() []uint32 {
	var l []uint32
	for range d.below(9) {
		l = append(l, d.number())
	}
	return l
}

// piece draws some instructions that stand together.
func (d *draws) piece() []api.Ins {
	a, b := d.below(8), d.below(8)
	switch d.below(16) {
	case 0, 1:
		return []api.Ins{mask(b), do(api.Load, a, b)}
	case 2, 3, 4:
		return []api.Ins{mask(a), do(api.Store, a, b)}
	case 5:
		return []api.Ins{{Op: api.MaskC, A: a}, {Op: api.Jr, A: a}}
	case 6:
		return []api.Ins{jmp(0)}
	case 7:
		return []api.Ins{{Op: api.Jz, A: a}}
	case 8, 9:
		return []api.Ins{movi(a, d.number())}
	case 10, 11, 12:
		return []api.Ins{ask(uint32(1 + d.below(4)))}
	case 13:
		if d.below(3) > 0 {
			return []api.Ins{do(api.Mov, a, b)}
		}
		return []api.Ins{ask(0)}
	}
	op := []int{2, 3, 4, 5, 6, 7, 8, 9, 10, 11, 12, 13, 14, 23, 0, 3, 3, 10}[d.below(18)]
	if op == api.Nop || op == api.Halt {
		return []api.Ins{{Op: op}}
	}
	return []api.Ins{do(op, a, b)}
}

// code draws safe code of at most so many bytes, a multiple of 32.
func (d *draws) code(most int) []byte {
	var c []byte
	for {
		var laid []byte
		for _, x := range d.piece() {
			laid = append(laid, isa.Lay(x)...)
		}
		for len(c)%32+len(laid) > 32 {
			c = append(c, api.Nop)
		}
		if len(c)+len(laid) > most || len(c) > 0 && d.below(40) == 0 {
			break
		}
		c = append(c, laid...)
	}
	for len(c)%32 > 0 {
		c = append(c, api.Nop)
	}
	return d.aimed(c)
}

// aimed gives code's jumps goals that may be.
func (d *draws) aimed(c []byte) []byte {
	starts, _ := scan.Starts(c)
	l, _ := scan.Listing(c)
	seconds, _ := rule.Seconds(c)
	goals := slices.DeleteFunc(slices.Clone(starts), func(at int) bool { return seconds[at] })
	for i, at := range starts {
		if x := l[i]; x.Op == api.Jmp || x.Op == api.Jz {
			x.Imm = uint32(goals[d.below(len(goals))] - at - isa.Size(x.Op))
			copy(c[at:], isa.Lay(x))
		}
	}
	return c
}

// image draws the bytes of one that is safe and fits a region of a size.
func (d *draws) image(t *testing.T, size int) []byte {
	t.Helper()
	b := laid(t, d.code(min(size/2-32, 1024)), d.bytes(d.below(min(size/2, 2048)+1)))
	if _, e := verify.Image(b); e != 0 {
		t.Fatalf("an image drawn is none: %d", e)
	}
	return b
}
