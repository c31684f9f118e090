package gate

import (
	"slices"
	"testing"

	"corral/mem"
	"corral/step"
)

// 12.3, and what is handed in and out

// TestHoldOnlyZero has drawn processors, worlds, memories and gates: no byte and no zone changes, and of the processor nothing but register 0.
func TestHoldOnlyZero(t *testing.T) {
	var d draws = 123
	changed := 0
	for range 10000 {
		p := d.memory()
		c, w, n := d.cpu(len(p.bytes)), d.world(), d.gate()
		m := p.real(t)
		got, _ := Do(c, m, w, n)
		if !p.same(m) {
			t.Fatalf("gate %d of %v changed the memory", n, c)
		}
		if got != c {
			changed++
		}
		got.R[0] = c.R[0]
		if got != c {
			t.Fatalf("gate %d changed %v to %v", n, c, got)
		}
	}
	if changed < 2000 {
		t.Errorf("register 0 changed %d times", changed)
	}
}

// elsewhere answers a memory that is another one wherever the upper half isn't: each byte, and whether it is there.
func (p memory) elsewhere(c step.Cpu) memory {
	half := uint64(c.Size / 2)
	from, behind := uint64(c.Base)+half, uint64(c.Base)+2*half
	q := memory{slices.Clone(p.bytes), slices.Clone(p.zones)}
	for i := range q.zones {
		if end := uint64(64*i + 64); end <= from || uint64(64*i) >= behind {
			q.zones[i] = !q.zones[i]
		}
	}
	for i := range q.bytes {
		if uint64(i) < from || uint64(i) >= behind {
			q.bytes[i] = 0
			if q.zones[i/64] {
				q.bytes[i] = ^p.bytes[i]
			}
		}
	}
	return q
}

// TestHoldNothingElse has memories that are alike in a region's upper half alone: no gate tells them apart. Nor does one tell which the registers behind the second are, or where the processor is.
func TestHoldNothingElse(t *testing.T) {
	var d draws = 124
	sums := 0
	for range 10000 {
		p := d.memory()
		c, w, n := d.cpu(len(p.bytes)), d.world(), d.gate()
		here, after := Do(c, p.real(t), w, n)
		there, other := Do(c, p.elsewhere(c).real(t), w, n)
		if here != there || !alike(after, other) {
			t.Fatalf("gate %d of %v tells what lies elsewhere: %v, %v and %v, %v", n, c, here, after, there, other)
		}
		apart := c
		apart.Pc ^= 64
		for i := 2; i < len(c.R); i++ {
			apart.R[i] = ^c.R[i]
		}
		there, other = Do(apart, p.real(t), w, n)
		if here.R[0] != there.R[0] || !alike(after, other) {
			t.Fatalf("gate %d of %v and %v: %v, %v and %v, %v", n, c, apart, here, after, there, other)
		}
		if n == 3 && here.R[0] != none && here.R[0] != empty {
			sums++
		}
	}
	if sums < 100 {
		t.Errorf("%d sums were told", sums)
	}
}

// TestHoldReplies has replies that only the gate 2 tells, and of which it tells none but the next.
func TestHoldReplies(t *testing.T) {
	var d draws = 125
	for range 5000 {
		p := d.memory()
		c, w, n := d.cpu(len(p.bytes)), d.world(), d.gate()
		m := p.real(t)
		other := copied(w)
		for i := range other.Replies {
			if n != 2 || i != max(w.Taken, 0) {
				other.Replies[i]++
			}
		}
		a, v := Do(c, m, w, n)
		b, u := Do(c, m, other, n)
		u.Replies = v.Replies
		if a != b || !alike(v, u) {
			t.Fatalf("gate %d of %v tells what %v has: %v, %v and %v, %v", n, c, other, a, v, b, u)
		}
	}
}

// TestHoldTrace has a trace with spare room, and each gate twice of the same world: the spare room isn't written, and one answer isn't changed by the other.
func TestHoldTrace(t *testing.T) {
	p := filled(512)
	for room := range 5 {
		for n := range 4 {
			trace := []Event{{1, 3}, {8, 81}, {8, 82}, {8, 83}, {8, 84}}
			w := World{Replies: []uint32{5, 6}, Trace: trace[: 1 : 1+room]}
			c := step.Cpu{R: [8]uint32{200, 10}, Base: 128, Size: 128}
			b := step.Cpu{R: [8]uint32{210, 20}, Base: 128, Size: 128}
			_, first := Do(c, p.real(t), w, n)
			_, second := Do(b, p.real(t), w, n)
			_, third := Do(c, p.real(t), first, n)
			if !slices.Equal(trace, []Event{{1, 3}, {8, 81}, {8, 82}, {8, 83}, {8, 84}}) || len(w.Trace) != 1 {
				t.Errorf("gate %d: the trace handed in is %v", n, trace)
			}
			for i, got := range []World{first, second} {
				_, want := plainDo([]step.Cpu{c, b}[i], p, World{Replies: []uint32{5, 6}, Trace: []Event{{1, 3}}}, n)
				if !alike(got, want) {
					t.Errorf("gate %d: %v, want %v", n, got, want)
				}
			}
			if n > 0 && len(third.Trace) != 3 || n == 0 && len(third.Trace) != 2 {
				t.Errorf("gate %d: %v", n, third)
			}
		}
	}
}

// TestHoldMany has many worlds that come of one, and of each other, with all of their traces as they were answered.
func TestHoldMany(t *testing.T) {
	var d draws = 126
	var m *mem.Mem
	worlds := []World{{Trace: make([]Event, 0, 50), Replies: numbers}}
	texts := []string{""}
	for range 300 {
		i := d.below(len(worlds))
		n := 1 + d.below(3)
		c, w := Do(step.Cpu{R: [8]uint32{d.number()}}, m, worlds[i], n)
		worlds = append(worlds, w)
		texts = append(texts, texts[i]+plainText([]Event{{n, c.R[0]}}))
	}
	for i, w := range worlds {
		if got := Text(w.Trace); got != texts[i] {
			t.Errorf("the world %d tells %q, want %q", i, got, texts[i])
		}
	}
}

// TestHoldAgain has what Do answers hang on its arguments alone.
func TestHoldAgain(t *testing.T) {
	var d draws = 127
	for range 2000 {
		p := d.memory()
		c, w, n := d.cpu(len(p.bytes)), d.world(), d.gate()
		m := p.real(t)
		a, v := Do(c, m, w, n)
		b, u := Do(c, m, w, n)
		if a != b || !alike(u, v) {
			t.Errorf("gate %d of %v, %v: %v, %v, and then %v, %v", n, c, w, a, v, b, u)
		}
	}
}
