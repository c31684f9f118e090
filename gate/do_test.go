package gate

import (
	"math"
	"testing"

	"corral/step"
)

// 12.1, Do

// numbers are those of registers that events are made of.
var numbers = []uint32{0, 1, 7, 255, 256, 1<<31 - 1, 1 << 31, 1<<31 + 1, 1<<32 - 2, 1<<32 - 1}

// somewhere is a processor of which each field is unlike the others.
func somewhere(v uint32) step.Cpu {
	return step.Cpu{Pc: 130, R: [8]uint32{v, 21, 22, 23, 24, 25, 26, 27}, Base: 128, Size: 256}
}

// checkEvent holds that a gate answers a processor that is as it was but for register 0, and a world that is as it was but for one more event, and returns the world.
func checkEvent(t *testing.T, c, got step.Cpu, w, after World, e Event) {
	t.Helper()
	c.R[0] = e.V
	w.Trace = append(append([]Event{}, w.Trace...), e)
	if got != c || !alike(after, w) {
		t.Errorf("gate %d: %v, %v, want %v, %v", e.Gate, got, after, c, w)
	}
}

// TestDoExample has the chapter's example.
func TestDoExample(t *testing.T) {
	c := step.Cpu{R: [8]uint32{7}}
	got, w := Do(c, nil, World{}, 1)
	checkEvent(t, c, got, World{}, w, Event{1, 7})
}

// TestDoOver has worlds that are over: nothing changes, whatever the gate is.
func TestDoOver(t *testing.T) {
	p := filled(512)
	for _, n := range allGates() {
		for _, w := range []World{
			{Over: true},
			{Over: true, Code: 9},
			{Replies: []uint32{5, 6}, Taken: 1, Trace: []Event{{1, 3}, {0, 9}}, Over: true, Code: 9},
			{Replies: []uint32{5, 6}, Taken: 0, Trace: []Event{{0, 9}}, Over: true, Code: 9},
			{Replies: []uint32{5, 6}, Taken: -3, Trace: []Event{{0, 9}}, Over: true, Code: 9},
			{Replies: []uint32{5, 6}, Taken: 77, Trace: []Event{{77, 9}}, Over: true, Code: 1<<32 - 1},
		} {
			c := somewhere(256) // of which there is a sum
			got, after := checkDo(t, "over", c, p, w, n)
			if got != c || !alike(after, w) {
				t.Errorf("gate %d of a world that is over: %v, %v, want %v, %v", n, got, after, c, w)
			}
		}
	}
}

// TestDoNothing has the gate 4, and numbers that no gate has: nothing changes.
func TestDoNothing(t *testing.T) {
	p := filled(512)
	for _, n := range noGates {
		for _, w := range []World{
			{},
			{Replies: []uint32{}, Trace: []Event{}},
			{Replies: []uint32{5, 6}, Taken: 1, Trace: []Event{{1, 3}}, Code: 9},
			{Replies: []uint32{5, 6}, Taken: 2, Trace: []Event{{4, 3}}},
		} {
			for _, v := range numbers {
				c := somewhere(v)
				got, after := checkDo(t, "nothing", c, p, w, n)
				if got != c || !alike(after, w) {
					t.Errorf("%d is no gate that does something: %v, %v, want %v, %v", n, got, after, c, w)
				}
			}
		}
	}
}

// TestDoQuit has the gate 0: all is over, with register 0, and nothing that comes behind changes anything.
func TestDoQuit(t *testing.T) {
	p := filled(512)
	for _, v := range numbers {
		for _, w := range []World{{}, {Code: 4}, {Replies: []uint32{5, 6}, Taken: 1, Trace: []Event{{1, 3}, {2, 5}}, Code: 9}} {
			c := somewhere(v)
			got, after := checkDo(t, "quit", c, p, w, 0)
			want := w
			want.Over, want.Code = true, v
			checkEvent(t, c, got, want, after, Event{0, v})
			for _, n := range allGates() {
				next := somewhere(v + 1)
				if got, last := checkDo(t, "behind", next, p, after, n); got != next || !alike(last, after) {
					t.Errorf("gate %d behind quit: %v, %v, want %v, %v", n, got, last, next, after)
				}
			}
		}
	}
}

// TestDoTell has the gate 1: an event of register 0, and nothing else.
func TestDoTell(t *testing.T) {
	p := filled(512)
	for _, v := range numbers {
		for _, w := range []World{{}, {Code: 4}, {Replies: []uint32{5, 6}, Taken: 1, Trace: []Event{{1, v}, {2, 5}}, Code: 9}} {
			c := somewhere(v)
			got, after := checkDo(t, "tell", c, p, w, 1)
			checkEvent(t, c, got, w, after, Event{1, v})
		}
	}
}

// TestDoAsk takes replies one by one, to the end and further.
func TestDoAsk(t *testing.T) {
	for _, replies := range [][]uint32{nil, {}, {0}, {5}, {1<<32 - 1}, numbers, make([]uint32, 100)} {
		w := World{Replies: replies}
		c := somewhere(99)
		for i := range len(replies) + 5 {
			want := w
			var v uint32
			if i < len(replies) {
				v, want.Taken = replies[i], i+1
			}
			c.R[0] = 99 // so that a reply of 0 is seen
			got, after := checkDo(t, "ask", c, memory{}, w, 2)
			checkEvent(t, c, got, want, after, Event{2, v})
			c, w = got, after
		}
		if w.Taken != len(replies) || len(w.Trace) != len(replies)+5 {
			t.Errorf("%d replies: %d taken, %d events", len(replies), w.Taken, len(w.Trace))
		}
	}
}

// TestDoAskTaken has replies of which any number are taken: below 0 counts as 0, and from the end on all are.
func TestDoAskTaken(t *testing.T) {
	replies := []uint32{5, 6, 7}
	for _, x := range []struct {
		taken, then int
		v           uint32
	}{
		{math.MinInt, 1, 5}, {math.MinInt + 1, 1, 5}, {-1 << 32, 1, 5}, {-1 << 31, 1, 5}, {-3, 1, 5}, {-1, 1, 5},
		{0, 1, 5}, {1, 2, 6}, {2, 3, 7},
		{3, 3, 0}, {4, 4, 0}, {5, 5, 0}, {1 << 31, 1 << 31, 0}, {1 << 32, 1 << 32, 0}, {math.MaxInt - 1, math.MaxInt - 1, 0}, {math.MaxInt, math.MaxInt, 0},
	} {
		c, w := somewhere(99), World{Replies: replies, Taken: x.taken, Trace: []Event{{2, 1}}}
		got, after := checkDo(t, "taken", c, memory{}, w, 2)
		want := w
		want.Taken = x.then
		checkEvent(t, c, got, want, after, Event{2, x.v})
	}
	for _, taken := range []int{math.MinInt, -1, 0, 1, math.MaxInt} {
		for _, replies := range [][]uint32{nil, {}} {
			got, after := Do(somewhere(99), nil, World{Replies: replies, Taken: taken}, 2)
			if got != somewhere(0) || len(after.Trace) != 1 || after.Trace[0] != (Event{2, 0}) {
				t.Errorf("no replies, %d taken: %v, %v", taken, got, after)
			}
		}
	}
}

// TestDoAskRoom has replies with spare room: what lies there is no reply.
func TestDoAskRoom(t *testing.T) {
	room := []uint32{5, 6, 7, 8}
	w := World{Replies: room[:2], Taken: 2}
	c := somewhere(99)
	got, after := checkDo(t, "ask", c, memory{}, w, 2)
	checkEvent(t, c, got, w, after, Event{2, 0})
	if room[2] != 7 || room[3] != 8 {
		t.Errorf("the replies' spare room is %v", room)
	}
}

// TestDoRun has a run of many gates, and its text at the end.
func TestDoRun(t *testing.T) {
	p := filled(512)
	c, w := somewhere(3), World{Replies: []uint32{1<<32 - 2, 8}}
	for _, n := range []int{1, 2, 1, 4, 2, 2, 77, 1, -1} {
		c, w = checkDo(t, "run", c, p, w, n)
	}
	c.R[0], c.R[1] = 256, 0
	for _, n := range []int{3, 3, 0, 1, 2, 0} {
		c, w = checkDo(t, "run", c, p, w, n)
	}
	if got, want := Text(w.Trace), "1 3\n2 -2\n1 -2\n2 8\n2 0\n1 0\n3 -2128831035\n3 -1\n0 -1\n"; got != want {
		t.Errorf("the run's text is %q, want %q", got, want)
	}
	if !w.Over || w.Code != none || w.Taken != 2 {
		t.Errorf("the world is %v", w)
	}
}

// TestDoDrawn has drawn processors, memories, worlds and gates.
func TestDoDrawn(t *testing.T) {
	var d draws = 12
	sums := 0
	for range 20000 {
		p := d.memory()
		n := d.gate()
		_, w := checkDo(t, "drawn", d.cpu(len(p.bytes)), p, d.world(), n)
		if k := len(w.Trace); n == 3 && !w.Over && w.Trace[k-1].V != none {
			sums++
		}
	}
	if sums < 300 {
		t.Errorf("%d sums were told", sums)
	}
}
