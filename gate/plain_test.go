package gate

import (
	"math"
	"math/big"
	"slices"
	"strconv"
	"testing"

	"corral/mem"
	"corral/step"
)

// This file has the chapter's words written out once more, and what the tests build of processors, memories and worlds.

// none is what gate 3 answers where there is no sum, and empty is the sum of no bytes.
const (
	none  = 4294967295
	empty = 2166136261
)

// noGates are numbers of which nothing is done: the gate 4, and ones that no gate has.
var noGates = []int{4, 5, 6, 9, 10, 255, 256, 258, 1 << 31, 1 << 32, 1<<32 + 1, 1<<32 + 3, 1 << 62, math.MaxInt, -1, -2, -3, -4, -256, -1 << 31, -1 << 32, -1<<32 + 1, math.MinInt + 1, math.MinInt}

// allGates are those, and the gates of which something is done.
func allGates() []int { return append([]int{0, 1, 2, 3}, noGates...) }

// memory is one written out: each byte, and whether it is there; of nil bytes there is none.
type memory struct {
	bytes []byte
	zones []bool
}

// real answers the memory that is told of.
func (p memory) real(t *testing.T) *mem.Mem {
	t.Helper()
	if p.bytes == nil {
		return nil
	}
	m, e := mem.New(len(p.bytes))
	if e != 0 {
		t.Fatalf("New(%d) = %d", len(p.bytes), e)
	}
	for i, is := range p.zones {
		if is {
			m.Set(64*i, 64, true)
			m.Write(64*i, p.bytes[64*i:64*i+64])
		}
	}
	return m
}

// same tells whether a memory is as it was.
func (p memory) same(m *mem.Mem) bool {
	if m.Size() != len(p.bytes) {
		return false
	}
	for i, is := range p.zones {
		b, ok := m.Read(64*i, 64)
		if ok != is || ok && !slices.Equal(b, p.bytes[64*i:64*i+64]) {
			return false
		}
	}
	return true
}

// filled answers a memory of so many bytes, each unlike those around it, that are all there.
func filled(n int) memory {
	p := memory{make([]byte, n), make([]bool, n/64)}
	for i := range p.bytes {
		p.bytes[i] = byte(i*7 + i/64*3 + 1)
	}
	for i := range p.zones {
		p.zones[i] = true
	}
	return p
}

// plainOwns tells, with numbers of any size, whether each of the bytes lies in the upper half.
func plainOwns(c step.Cpu, at, n uint32) bool {
	whole := func(v uint32) *big.Int { return new(big.Int).SetUint64(uint64(v)) }
	half := new(big.Int).Quo(whole(c.Size), big.NewInt(2))
	from := new(big.Int).Add(whole(c.Base), half)
	behind := new(big.Int).Add(from, half)
	if n == 0 {
		return whole(at).Cmp(from) >= 0 && whole(at).Cmp(behind) <= 0
	}
	last := new(big.Int).Add(whole(at), whole(n-1))
	return whole(at).Cmp(from) >= 0 && last.Cmp(behind) < 0
}

// plainSum adds up the bytes from at on, one by one, if all of them are there.
func (p memory) plainSum(at, n uint32) uint32 {
	if p.bytes == nil || uint64(at) > uint64(len(p.bytes)) {
		return none
	}
	h := uint64(empty)
	for i := uint64(at); i < uint64(at)+uint64(n); i++ {
		if i >= uint64(len(p.bytes)) || !p.zones[i/64] {
			return none
		}
		h = (h ^ uint64(p.bytes[i])) * 16777619 % (1 << 32)
	}
	return uint32(h)
}

// plainDo does what the chapter says of each gate, with a new trace.
func plainDo(c step.Cpu, p memory, w World, n int) (step.Cpu, World) {
	if w.Over || n < 0 || n > 3 {
		return c, w
	}
	if n == 0 {
		w.Over = true
		w.Code = c.R[0]
	}
	if n == 2 {
		left := w.Replies
		if w.Taken > 0 {
			left = left[min(w.Taken, len(left)):]
		}
		c.R[0] = 0
		if len(left) > 0 {
			c.R[0] = left[0]
			w.Taken = len(w.Replies) - len(left) + 1
		}
	}
	if n == 3 {
		told := uint32(none)
		if plainOwns(c, c.R[0], c.R[1]) {
			told = p.plainSum(c.R[0], c.R[1])
		}
		c.R[0] = told
	}
	w.Trace = append(slices.Clone(w.Trace), Event{n, c.R[0]})
	return c, w
}

// plainText answers the lines of events, of which numbers are read with a sign.
func plainText(l []Event) string {
	s := ""
	for _, e := range l {
		gate := "?"
		if e.Gate >= 0 && e.Gate <= 9 {
			gate = strconv.Itoa(e.Gate)
		}
		v := int64(e.V)
		if v >= 1<<31 {
			v -= 1 << 32
		}
		s += gate + " " + strconv.FormatInt(v, 10) + "\n"
	}
	return s
}

// alike tells whether two worlds are alike; nil and an empty list are one.
func alike(a, b World) bool {
	return slices.Equal(a.Replies, b.Replies) && a.Taken == b.Taken && slices.Equal(a.Trace, b.Trace) && a.Over == b.Over && a.Code == b.Code
}

// copied answers a world that shares nothing with another one.
func copied(w World) World {
	w.Replies, w.Trace = slices.Clone(w.Replies), slices.Clone(w.Trace)
	return w
}

// checkDo holds what Do answers against the chapter's words, and that it changes neither the world nor the memory that it is handed.
func checkDo(t *testing.T, name string, c step.Cpu, p memory, w World, n int) (step.Cpu, World) {
	t.Helper()
	before := copied(w)
	wantC, wantW := plainDo(c, p, w, n)
	m := p.real(t)
	gotC, gotW := Do(c, m, w, n)
	if gotC != wantC || !alike(gotW, wantW) {
		t.Errorf("%s: Do(%v, %v, %d) = %v, %v, want %v, %v", name, c, w, n, gotC, gotW, wantC, wantW)
	}
	if !alike(w, before) {
		t.Errorf("%s: Do(%v, %v, %d) changed the world to %v", name, c, before, n, w)
	}
	if !p.same(m) {
		t.Errorf("%s: Do(%v, %v, %d) changed the memory", name, c, w, n)
	}
	return gotC, gotW
}

// draws are numbers that follow each other by a rule, so that each run of the tests has the same.
type draws uint32

// below draws one from 0 to below n.
func (d *draws) below(n int) int {
	*d = *d*1664525 + 1013904223
	return int(uint64(*d) * uint64(n) >> 32)
}

// number draws one of 32 bits: an edge, one near an edge, or any.
func (d *draws) number() uint32 {
	edges := []uint32{0, 1, 64, 128, 1 << 16, 1 << 31, none}
	switch d.below(3) {
	case 0:
		return edges[d.below(len(edges))]
	case 1:
		return edges[d.below(len(edges))] + uint32(d.below(9)) - 4
	}
	return uint32(d.below(1 << 32))
}

// memory draws one of some zones, each of which is there or not.
func (d *draws) memory() memory {
	p := filled(64 * (1 + d.below(16)))
	for i := range p.zones {
		p.zones[i] = d.below(4) > 0
		for j := 64 * i; j < 64*i+64; j++ {
			p.bytes[j] = 0
			if p.zones[i] {
				p.bytes[j] = byte(d.below(256))
			}
		}
	}
	return p
}

// cpu draws a processor whose region, and what its registers tell of, lie in or near a memory of so many bytes, or anywhere.
func (d *draws) cpu(n int) step.Cpu {
	c := step.Cpu{Pc: d.number(), Base: d.number(), Size: d.number()}
	for i := range c.R {
		c.R[i] = d.number()
	}
	if d.below(5) > 0 {
		c.Base, c.Size = uint32(d.below(n)), uint32(d.below(n+10))
		half := c.Size / 2
		at := d.below(int(half) + 1)
		c.R[0], c.R[1] = c.Base+half+uint32(at), uint32(d.below(int(half)-at+1))
		if d.below(3) == 0 {
			c.R[d.below(2)] += uint32(d.below(9)) - 4
		}
	}
	return c
}

// world draws one, seldom over, with some replies of which some are taken, and a trace with spare room.
func (d *draws) world() World {
	w := World{Taken: d.below(8) - 2, Over: d.below(8) == 0, Code: d.number()}
	for range d.below(6) {
		w.Replies = append(w.Replies, d.number())
	}
	for range d.below(5) {
		w.Trace = append(w.Trace, Event{d.below(12) - 1, d.number()})
	}
	return w
}

// gate draws a gate, or a number that is none.
func (d *draws) gate() int {
	if d.below(6) == 0 {
		return noGates[d.below(len(noGates))]
	}
	return d.below(5)
}
