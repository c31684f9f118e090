package host

import (
	"math"
	"slices"
	"testing"

	"corral/api"
	"corral/box"
	"corral/gate"
	"corral/scan"
)

// 14.2, Run and Kill

// checkIs holds what a sandbox is, and why.
func (x both) checkIs(name string, id, is, what int) {
	x.t.Helper()
	if b, e := x.h.Box(id); e != 0 || b.Is != is || b.What != what {
		x.t.Errorf("%s: Box(%d) is %d, %d, %d, want %d, %d", name, id, b.Is, b.What, e, is, what)
	}
}

// checkMade holds how many steps were made.
func (x both) checkMade(name string, id, n, want int) {
	x.t.Helper()
	if made := x.run(name, id, n); made != want {
		x.t.Errorf("%s: Run(%d, %d) = %d, want %d", name, id, n, made, want)
	}
}

// TestRunNone has numbers that no sandbox has: ErrNone, and 0, whatever is loaded.
func TestRunNone(t *testing.T) {
	x := hosts(t, 65536)
	for i := range 17 {
		ids := slices.Clone(noNumbers)
		for id := i; id < 18; id++ {
			ids = append(ids, id)
		}
		for _, id := range ids {
			for _, n := range []int{0, 1, 100, -1, math.MaxInt, math.MinInt} {
				if made, e := x.h.Run(id, n); made != 0 || e != api.ErrNone {
					t.Fatalf("with %d loaded, Run(%d, %d) = %d, %d", i, id, n, made, e)
				}
			}
			if e := x.h.Kill(id); e != api.ErrNone {
				t.Fatalf("with %d loaded, Kill(%d) = %d", i, id, e)
			}
		}
		x.check("none")
		if i < 16 {
			x.loaded("none", small(t, ask(1), ask(0)), 128)
		}
	}
	x.kill("one", 7)
	x.checkMade("killed", 7, 5, 0)
	x.kill("killed", 7)
}

// TestRunFew has slices of no steps, and of fewer.
func TestRunFew(t *testing.T) {
	x := hosts(t, 1024)
	x.loaded("few", small(t, ask(2), ask(0)), 128, 5)
	for _, n := range few {
		x.checkMade("few", 0, n, 0)
		x.checkIs("few", 0, box.Ready, 0)
	}
	x.checkMade("then", 0, 9, 2)
	for _, n := range few {
		x.checkMade("over", 0, n, 0)
	}
}

// TestRunCount has slices of one step, of some, and of many.
func TestRunCount(t *testing.T) {
	x := hosts(t, 2048)
	code := small(t, movi(1, 1), do(api.Add, 0, 1), ask(1), jmp(-9))
	for i, n := range []int{1, 2, 3, 10, 1000} {
		id := x.loaded("count", code, 128)
		x.checkMade("count", id, n, n)
		x.checkMade("count, and once more", id, n, n)
		x.checkIs("count", id, box.Ready, 0)
		if id != i {
			t.Errorf("the number is %d", id)
		}
	}
	if got := x.told(3); got != "1 1\n1 2\n1 3\n1 4\n1 5\n1 6\n" {
		t.Errorf("by twice ten steps it tells %q", got)
	}
	x.checkMade("many", 0, 1<<16, 1<<16)
	id := x.loaded("the greatest number", small(t, ask(2), ask(0)), 128, 4)
	x.checkMade("the greatest number", id, math.MaxInt, 2)
	x.checkIs("the greatest number", id, box.Over, 0)
}

// TestRunPause has the gate 4: it ends a slice, and the next one goes on behind it.
func TestRunPause(t *testing.T) {
	x := hosts(t, 2048)
	x.loaded("pause", small(t, ask(1), ask(4), ask(2), ask(4), ask(4), ask(0)), 256, 5)
	x.loaded("beside", small(t, ask(4), ask(0)), 256)
	for _, want := range []int{2, 2, 1, 1, 0} {
		x.checkMade("pause", 0, 100, want)
	}
	x.checkIs("pause", 0, box.Over, 0)
	x.checkMade("beside", 1, 100, 1)
	x.checkIs("beside", 1, box.Ready, 0)
	if got := x.told(0); got != "1 0\n2 5\n0 5\n" {
		t.Errorf("it tells %q", got)
	}
}

// TestRunEnded has sandboxes that are over, or dead in each way that safe code dies: no step, and they keep number and region.
func TestRunEnded(t *testing.T) {
	for _, end := range []struct {
		name     string
		l        []api.Ins
		n        int
		is, what int
	}{
		{"over", []api.Ins{movi(0, 6), ask(0)}, 2, box.Over, 0},
		{"a Halt", []api.Ins{{}}, 1, box.Dead, api.Halted},
		{"a division by 0", []api.Ins{movi(1, 5), do(api.Div, 1, 2)}, 2, box.Dead, api.Trapped},
		{"a rest by 0", []api.Ins{do(api.Rem, 1, 2)}, 1, box.Dead, api.Trapped},
		{"a Load of the last byte", []api.Ins{movi(1, 127), mask(1), do(api.Load, 2, 1)}, 3, box.Dead, api.Faulted},
		{"a Store of the last byte", []api.Ins{movi(1, 127), mask(1), do(api.Store, 1, 2)}, 3, box.Dead, api.Faulted},
	} {
		x := hosts(t, 2048)
		x.loaded(end.name, small(t, end.l...), 256)
		x.loaded("beside", small(t, ask(1), ask(0)), 128)
		x.checkMade(end.name, 0, 100, end.n)
		for _, n := range []int{0, 1, 100, math.MaxInt, -1} {
			x.checkMade(end.name, 0, n, 0)
			x.checkIs(end.name, 0, end.is, end.what)
		}
		if len(x.h.Regions()) != 2 || !x.h.There(256) || !x.h.There(511) {
			t.Errorf("%s: its region isn't there", end.name)
		}
		if id := x.loaded("the next one", small(t, ask(0)), 128); id != 2 {
			t.Errorf("%s: the next number is %d", end.name, id)
		}
		x.kill(end.name, 0)
		if x.h.There(256) || x.h.There(511) {
			t.Errorf("%s: its region is there", end.name)
		}
		x.checkMade("beside", 1, 9, 2)
	}
}

// TestRunOnce makes each of many steps by a slice of its own: the trace grows in its place, event by event.
func TestRunOnce(t *testing.T) {
	h, _ := New(1024)
	h.Load(small(t, movi(1, 1), do(api.Add, 0, 1), ask(1), jmp(-9)), 128, nil)
	const rounds = 100000
	for i := range 1 + 3*rounds {
		if made, e := h.Run(0, 1); made != 1 || e != 0 {
			t.Fatalf("the slice %d: %d, %d", i, made, e)
		}
	}
	b, _ := h.Box(0)
	if len(b.W.Trace) != rounds {
		t.Fatalf("there are %d events", len(b.W.Trace))
	}
	for i, e := range b.W.Trace {
		if e != (gate.Event{Gate: 1, V: uint32(i + 1)}) {
			t.Fatalf("the event %d is %v", i, e)
		}
	}
}

// TestKill kills the only one, twice; its number and its place are free again.
func TestKill(t *testing.T) {
	x := hosts(t, 1024)
	x.loaded("the only one", laid(t, nops(32), row(64)), 128)
	x.run("the only one", 0, 5)
	if e := x.h.Kill(0); e != 0 {
		t.Errorf("Kill = %d", e)
	}
	for range 2 {
		if e := x.h.Kill(0); e != api.ErrNone {
			t.Errorf("Kill again = %d", e)
		}
	}
	if r := x.h.Regions(); len(r) != 0 {
		t.Errorf("the regions are %v", r)
	}
	for at := range 1024 {
		if x.h.There(at) {
			t.Fatalf("the byte %d is there", at)
		}
	}
	if _, e := x.h.Box(0); e != api.ErrNone {
		t.Errorf("Box = %d", e)
	}
	if made, e := x.h.Run(0, 1); made != 0 || e != api.ErrNone {
		t.Errorf("Run = %d, %d", made, e)
	}
	x.p.boxes[0] = nil
	if id := x.loaded("anew", small(t, ask(0)), 256); id != 0 {
		t.Errorf("the number is %d", id)
	}
}

// TestKillBetween kills one among others: they go on as they were.
func TestKillBetween(t *testing.T) {
	code := laid(t, scan.Pad([]api.Ins{ask(2), mask(1), do(api.Store, 1, 0), ask(4), mask(1), do(api.Load, 3, 1), ask(0)}), row(8))
	for killed := range 4 {
		x := hosts(t, 4096)
		for i := range 4 {
			x.loaded("between", code, 256, uint32(100+i))
			x.run("between", i, 2)
		}
		x.kill("between", killed)
		for i := range 4 {
			x.run("behind", i, 9)
			x.run("behind", i, 9)
		}
		if killed > 0 {
			x.kill("one more", killed-1)
		}
		x.loaded("anew", code, 256, 7)
		x.loaded("anew", code, 256, 8)
	}
}

// TestBoxHanded changes the lists of a sandbox handed out, spare room included: the host's own stay, and so do those of another answer.
func TestBoxHanded(t *testing.T) {
	x := hosts(t, 1024)
	x.loaded("handed", small(t, ask(2), ask(2), ask(2), ask(2), ask(2), ask(1), ask(0)), 128, 5, 6, 7, 8, 9)
	var all []box.Box
	var texts []string
	for i := range 8 {
		b, _ := x.h.Box(0)
		again, _ := x.h.Box(0)
		all, texts = append(all, again), append(texts, gate.Text(again.W.Trace))
		replies, trace := b.W.Replies[:cap(b.W.Replies)], b.W.Trace[:cap(b.W.Trace)]
		for k := range replies {
			replies[k] = 77
		}
		for k := range trace {
			trace[k] = gate.Event{Gate: 7, V: 77}
		}
		x.check("the lists handed out are changed")
		x.checkMade("handed", 0, 1, min(1, 7-min(i, 7)))
	}
	for i, b := range all {
		if !slices.Equal(b.W.Replies, []uint32{5, 6, 7, 8, 9}) || gate.Text(b.W.Trace) != texts[i] || len(b.W.Trace) != min(i, 7) {
			t.Errorf("an earlier answer is %v", b)
		}
		if spare := b.W.Trace[len(b.W.Trace):cap(b.W.Trace)]; slices.ContainsFunc(spare, func(e gate.Event) bool { return e != gate.Event{} }) {
			t.Errorf("the spare room of an answer has %v", spare)
		}
	}
}

// TestBoxRun changes a sandbox handed out by slices of one's own: the host's stays.
func TestBoxRun(t *testing.T) {
	x := hosts(t, 1024)
	x.loaded("run", small(t, ask(2), ask(1), ask(0)), 128, 5)
	x.run("run", 0, 1)
	b, _ := x.h.Box(0)
	b.C.Pc, b.C.R[0], b.Is, b.What, b.W.Taken, b.W.Over = 0, 9, box.Dead, 4, 7, true
	x.check("a sandbox handed out is changed")
	x.checkMade("run", 0, 9, 2)
	if got := x.told(0); got != "2 5\n1 5\n0 5\n" {
		t.Errorf("it tells %q", got)
	}
}

// TestBytes has the bytes of regions of each size, of ones that have run, and changes what is handed out.
func TestBytes(t *testing.T) {
	code := scan.Pad([]api.Ins{movi(2, 0x01020304), movi(1, 8), mask(1), do(api.Store, 1, 2), ask(4), ask(0)})
	for _, size := range sizes {
		x := hosts(t, 65536)
		x.loaded("bytes", laid(t, code, []byte{5, 6}), size)
		want := make([]byte, size)
		copy(want, code)
		copy(want[size/2:], []byte{5, 6})
		ahead, e := x.h.Bytes(0)
		if e != 0 || !slices.Equal(ahead, want) {
			t.Errorf("ahead of a slice of %d bytes: %v, %d", size, ahead, e)
		}
		x.checkMade("bytes", 0, 99, 5)
		copy(want[size/2+8:], []byte{4, 3, 2, 1})
		behind, e := x.h.Bytes(0)
		if e != 0 || !slices.Equal(behind, want) {
			t.Errorf("behind a slice of %d bytes: %v, %d", size, behind, e)
		}
		if ahead[size/2+8] != 0 {
			t.Errorf("an earlier answer is changed by a slice")
		}
		behind = behind[:cap(behind)]
		clear(behind)
		x.check("the bytes handed out are changed")
		x.checkMade("the bytes handed out are changed", 0, 99, 1)
		x.checkIs("the bytes handed out are changed", 0, box.Over, 0)
		x.kill("bytes", 0)
	}
}

// TestNil has no host: ErrState ahead of all other errors, no region, and no byte.
func TestNil(t *testing.T) {
	var h *Host
	for _, b := range [][]byte{nil, []byte("V321"), small(t, ask(0)), laid(t, nops(64), nil), laid(t, nops(4096), nil)} {
		for _, size := range []int{128, 0, 100, 16384} {
			if id, e := h.Load(b, size, []uint32{5}); id != 0 || e != api.ErrState {
				t.Errorf("Load = %d, %d", id, e)
			}
		}
	}
	for _, id := range append(noNumbers, 0, 1, 15) {
		for _, n := range []int{0, 1, 100, -1} {
			if made, e := h.Run(id, n); made != 0 || e != api.ErrState {
				t.Errorf("Run(%d, %d) = %d, %d", id, n, made, e)
			}
		}
		if e := h.Kill(id); e != api.ErrState {
			t.Errorf("Kill(%d) = %d", id, e)
		}
		if b, e := h.Box(id); e != api.ErrState || !alike(b, box.Box{}) {
			t.Errorf("Box(%d) = %v, %d", id, b, e)
		}
		if bytes, e := h.Bytes(id); e != api.ErrState || len(bytes) != 0 {
			t.Errorf("Bytes(%d) = %v, %d", id, bytes, e)
		}
	}
	if r := h.Regions(); len(r) != 0 {
		t.Errorf("Regions = %v", r)
	}
	for _, at := range []int{0, 1, 128, -1, 65536, math.MaxInt, math.MinInt} {
		if h.There(at) {
			t.Errorf("There(%d)", at)
		}
	}
}
