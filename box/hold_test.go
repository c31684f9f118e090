package box

import (
	"slices"
	"testing"

	"corral/api"
	"corral/gate"
	"corral/mem"
	"corral/slab"
)

// 13.3, and what is handed in and out

// scene is a sandbox in a memory in which zones around its guards are there too, with bytes in them.
type scene struct {
	m *mem.Mem
	r slab.Region
	b Box
}

// scene draws one, of safe code, data and replies that are drawn.
func (d *draws) scene(t *testing.T) scene {
	t.Helper()
	n := 64 * (70 + d.below(60))
	r := d.region(n)
	m := filled(t, n, d.below(4))
	m.Set(r.Base-64, 64, false)
	m.Set(r.Base+r.Size, 64, false)
	return scene{m, r, made(t, m, r, d.image(t, r.Size), d.replies())}
}

// checkOwn holds that a memory is as it was but for bytes of a region's upper half, and answers how many are other ones.
func checkOwn(t *testing.T, m *mem.Mem, before shot, r slab.Region) int {
	t.Helper()
	changed := 0
	for i, was := range before {
		is, ok := m.Read(64*i, 64)
		if ok != (was != nil) {
			t.Fatalf("the zone at %d came or went", 64*i)
		}
		for k := range was {
			at := 64*i + k
			if is[k] == was[k] {
				continue
			}
			changed++
			if at < r.Base+r.Size/2 || at >= r.Base+r.Size {
				t.Fatalf("the byte %d was changed, by a sandbox in %v", at, r)
			}
		}
	}
	return changed
}

// TestHoldOwn has drawn sandboxes that make slices till they end: no byte but of the upper half changes, and no more steps are made than the slice has.
func TestHoldOwn(t *testing.T) {
	var d draws = 133
	ends, changed, yields := map[[2]int]int{}, 0, 0
	for range 1500 {
		s := d.scene(t)
		before := shotOf(s.m)
		for range 12 {
			n := d.below(60)
			got, made := checkSlice(t, "drawn", s.m, s.b, n)
			if made > n {
				t.Fatalf("a slice of %d made %d steps", n, made)
			}
			if got.Is == Ready && made < n {
				yields++
			}
			s.b = got
			changed += checkOwn(t, s.m, before, s.r)
		}
		ends[[2]int{s.b.Is, s.b.What}]++
	}
	for _, end := range [][2]int{{Ready, 0}, {Over, 0}, {Dead, api.Halted}, {Dead, api.Trapped}, {Dead, api.Faulted}} {
		if ends[end] < 10 {
			t.Errorf("only %d came to %v", ends[end], end)
		}
	}
	if len(ends) != 5 || changed < 10000 || yields < 500 {
		t.Errorf("ends: %v; %d bytes were changed, %d yielded", ends, changed, yields)
	}
}

// TestHoldElsewhere has two memories that are alike in a region alone: a sandbox there comes to the same in both.
func TestHoldElsewhere(t *testing.T) {
	var d draws = 134
	for range 500 {
		s := d.scene(t)
		other, _ := mem.New(s.m.Size())
		own, _ := s.m.Read(s.r.Base, s.r.Size)
		other.Set(s.r.Base, s.r.Size, true)
		other.Write(s.r.Base, own)
		b := s.b
		for range 5 {
			n := d.below(100)
			one, p := Slice(s.m, s.b, n)
			two, q := Slice(other, b, n)
			if !alike(one, two) || p != q {
				t.Fatalf("in one memory %v, %d, in the other %v, %d", one, p, two, q)
			}
			s.b, b = one, two
		}
		own, _ = s.m.Read(s.r.Base, s.r.Size)
		if owns, _ := other.Read(s.r.Base, s.r.Size); !slices.Equal(own, owns) {
			t.Fatalf("the regions are unlike")
		}
	}
}

// TestHoldBeside has sandboxes beside each other that make slices by turns: each comes to what it comes to alone.
func TestHoldBeside(t *testing.T) {
	var d draws = 135
	places := regions([][2]int{{256, 128}, {512, 256}, {1024, 512}, {2048, 1024}, {3200, 128}})
	for range 200 {
		m, _ := mem.New(4096)
		var among, alone []Box
		var own []*mem.Mem
		for _, r := range places {
			x, replies := d.image(t, r.Size), d.replies()
			other, _ := mem.New(4096)
			among, alone, own = append(among, made(t, m, r, x, replies)), append(alone, made(t, other, r, x, replies)), append(own, other)
		}
		for range 30 {
			i, n := d.below(len(places)), d.below(40)
			var p, q int
			among[i], p = Slice(m, among[i], n)
			alone[i], q = Slice(own[i], alone[i], n)
			if p != q || !alike(among[i], alone[i]) {
				t.Fatalf("among others %v, %d, alone %v, %d", among[i], p, alone[i], q)
			}
		}
		for i, r := range places {
			one, _ := m.Read(r.Base, r.Size)
			if two, _ := own[i].Read(r.Base, r.Size); !slices.Equal(one, two) {
				t.Fatalf("the region %v isn't as it would be alone", r)
			}
		}
	}
}

// TestHoldTrace has a trace with spare room: it isn't written, and of two slices of one sandbox none changes what the other one answered.
func TestHoldTrace(t *testing.T) {
	old := gate.Event{Gate: 8, V: 80}
	for room := range 6 {
		for n := range 8 {
			m, b := alone(t, nil, []uint32{5, 6}, ask(1), ask(2), ask(1), movi(0, 9), ask(1))
			trace := []gate.Event{old, old, old, old, old, old}
			b.W.Trace = trace[: 1 : 1+room]
			first, _ := Slice(m, b, n)
			kept := copied(first)
			b.C.R[0] = 77
			second, _ := Slice(m, b, n)
			told := copied(second)
			third, _ := Slice(m, first, 5)
			fourth, _ := Slice(m, first, 5)
			for _, e := range trace {
				if e != old {
					t.Fatalf("the trace handed in is %v", trace)
				}
			}
			if !alike(first, kept) || !alike(second, told) || !alike(third, fourth) || len(b.W.Trace) != 1 {
				t.Errorf("a slice of %d changed what another one answered: %v, %v, %v, %v", n, first, second, third, fourth)
			}
			for _, got := range []Box{first, second, third} {
				for i := range got.W.Trace[:cap(got.W.Trace)] {
					if i > 0 {
						got.W.Trace[:cap(got.W.Trace)][i] = gate.Event{Gate: 7}
					}
				}
			}
			if trace[1] != old || trace[5] != old {
				t.Errorf("the spare room of an answer is that of the trace handed in: %v", trace)
			}
		}
	}
}

// TestHoldReplies has replies that a slice isn't to change, spare room included.
func TestHoldReplies(t *testing.T) {
	m, b := alone(t, nil, nil, ask(2), ask(2), ask(2), ask(0))
	replies := []uint32{5, 6, 7, 8}
	b.W.Replies = replies[:2]
	got, _ := checkSlice(t, "replies", m, b, 9)
	if !slices.Equal(replies, []uint32{5, 6, 7, 8}) || gate.Text(got.W.Trace) != "2 5\n2 6\n2 0\n0 0\n" || b.W.Taken != 0 {
		t.Errorf("the replies are %v, the sandbox %v, that handed in %v", replies, got, b)
	}
}

// TestHoldAgain has what is answered hang on the arguments and the memory alone.
func TestHoldAgain(t *testing.T) {
	var d draws = 136
	for range 300 {
		s := d.scene(t)
		other := twin(t, s.m)
		n := d.below(200)
		one, p := Slice(s.m, s.b, n)
		two, q := Slice(other, s.b, n)
		if !alike(one, two) || p != q || !shotOf(s.m).same(shotOf(other)) {
			t.Fatalf("%v, %d, and then %v, %d", one, p, two, q)
		}
	}
}
