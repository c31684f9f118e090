package box

import (
	"math"
	"testing"

	"corral/api"
	"corral/gate"
	"corral/image"
	"corral/mem"
	"corral/scan"
	"corral/slab"
	"corral/step"
)

// 13.2

// checkIs holds what a slice came to.
func checkIs(t *testing.T, name string, b Box, made, is, what, want int) {
	t.Helper()
	if b.Is != is || b.What != what || made != want {
		t.Errorf("%s: %d, %d, %d steps, want %d, %d, %d", name, b.Is, b.What, made, is, what, want)
	}
}

// TestSliceExample has the chapter's example, in regions of each size.
func TestSliceExample(t *testing.T) {
	for _, size := range sizes {
		m, _ := mem.New(2*size + 64)
		b := made(t, m, slab.Region{Base: size, Size: size}, image.Image{Code: make([]byte, 32)}, nil)
		got, n := checkSlice(t, "the example", m, b, 5)
		checkIs(t, "the example", got, n, Dead, api.Halted, 1)
	}
}

// few are numbers of steps of which none is made.
var few = []int{0, -1, -2, -5, -1 << 31, -1 << 32, -1<<32 + 7, math.MinInt + 1, math.MinInt}

// TestSliceNone has slices of no steps, and of fewer.
func TestSliceNone(t *testing.T) {
	m, b := alone(t, row(9), []uint32{5}, ask(2), movi(1, 7), ask(0))
	for _, n := range few {
		got, made := checkSlice(t, "none", m, b, n)
		if made != 0 || !alike(got, b) {
			t.Errorf("a slice of %d: %v, %d", n, got, made)
		}
	}
}

// TestSliceCount has code of many instructions that runs on to its end: just so many steps are made as the slice has.
func TestSliceCount(t *testing.T) {
	var l []api.Ins
	for i := range 90 {
		l = append(l, movi(i%8, uint32(i+1)))
	}
	m, _ := mem.New(8192)
	x := image.Image{Code: code(l...)}
	all, _ := scan.Listing(x.Code)
	n := len(all) + 1 // up to the Halt behind the code
	b := made(t, m, slab.Region{Base: 2048, Size: 2048}, x, nil)
	for k := range 140 {
		got, made := checkSlice(t, "count", m, b, k)
		if k < n {
			checkIs(t, "count", got, made, Ready, 0, k)
		} else {
			checkIs(t, "count", got, made, Dead, api.Halted, n)
		}
	}
	for _, k := range []int{1 << 31, 1 << 32, math.MaxInt - 1, math.MaxInt} {
		got, made := checkSlice(t, "the greatest numbers", m, b, k)
		checkIs(t, "the greatest numbers", got, made, Dead, api.Halted, n)
	}
}

// TestSliceOne makes each step by a slice of its own.
func TestSliceOne(t *testing.T) {
	m, b := alone(t, row(16), []uint32{9, 8}, ask(2), ask(1), ask(4), do(api.MaskD, 3, 0), do(api.Load, 0, 3), ask(1), ask(2), ask(4), ask(0))
	for i := range 9 {
		var n int
		b, n = checkSlice(t, "one", m, b, 1)
		is := Ready
		if i == 8 {
			is = Over
		}
		checkIs(t, "one", b, n, is, 0, 1)
	}
	if got := gate.Text(b.W.Trace); got != "2 9\n1 9\n1 67305985\n2 8\n0 8\n" || b.W.Code != 8 {
		t.Errorf("the sandbox tells %q, %d", got, b.W.Code)
	}
}

// TestSliceDead has each way to die: with what became of the last step, and with the processor as it was ahead of it.
func TestSliceDead(t *testing.T) {
	for _, x := range []struct {
		name string
		l    []api.Ins
		n    int // steps, that one too
		what int
	}{
		{"a Halt", []api.Ins{movi(1, 5), {}}, 2, api.Halted},
		{"a Halt at once", []api.Ins{{}}, 1, api.Halted},
		{"a division by 0", []api.Ins{movi(1, 5), do(api.Div, 1, 2)}, 2, api.Trapped},
		{"a rest by 0", []api.Ins{do(api.Rem, 1, 2)}, 1, api.Trapped},
		{"a Load from below", []api.Ins{movi(1, 0), do(api.Load, 2, 1)}, 2, api.Faulted},
		{"a Load from right below", []api.Ins{movi(1, 255), do(api.Load, 2, 1)}, 2, api.Faulted},
		{"a Store below", []api.Ins{movi(1, 253), movi(2, 7), do(api.Store, 1, 2)}, 3, api.Faulted},
		{"a Load from above", []api.Ins{movi(1, 512), do(api.Load, 2, 1)}, 2, api.Faulted},
		{"a Store partly above", []api.Ins{movi(1, 509), do(api.Store, 1, 2)}, 2, api.Faulted},
		{"a Load from beyond the memory", []api.Ins{movi(1, 1<<32-1), do(api.Load, 2, 1)}, 2, api.Faulted},
		{"a jump below", []api.Ins{jmp(-6)}, 2, api.Faulted},
		{"a jump above", []api.Ins{jmp(251)}, 2, api.Faulted},
		{"a place beyond the memory", []api.Ins{movi(1, 1<<31), {Op: api.Jr, A: 1}}, 3, api.Faulted},
		{"a jump to no instruction", []api.Ins{movi(1, 24), jmp(-9)}, 3, api.Broken},
	} {
		m, b := raw(t, []uint32{1}, x.l...)
		got, n := checkSlice(t, x.name, m, b, 100)
		checkIs(t, x.name, got, n, Dead, x.what, x.n)
		ahead, n := checkSlice(t, x.name, m, b, x.n-1)
		checkIs(t, x.name, ahead, n, Ready, 0, x.n-1)
		if got.C != ahead.C {
			t.Errorf("%s: the step changed %v to %v", x.name, ahead.C, got.C)
		}
		checkStays(t, x.name, m, got)
	}
}

// checkStays holds that no step of a sandbox is made that is over or dead, and that nothing changes.
func checkStays(t *testing.T, name string, m *mem.Mem, b Box) {
	t.Helper()
	for _, n := range []int{0, 1, 2, 100, math.MaxInt, -1, math.MinInt} {
		got, made := checkSlice(t, name, m, b, n)
		if made != 0 || !alike(got, b) {
			t.Errorf("%s: a slice of %d makes %v of %v, by %d steps", name, n, got, b, made)
		}
	}
}

// TestSliceNotThere has zones of the region that aren't there any more: an upper one, by which a safe Load is Faulted, and the first one.
func TestSliceNotThere(t *testing.T) {
	m, b := alone(t, row(128), nil, do(api.MaskD, 1, 0), do(api.Load, 2, 1), movi(1, 64), do(api.MaskD, 1, 0), do(api.Load, 2, 1))
	m.Set(448, 64, false)
	got, n := checkSlice(t, "the zone isn't there", m, b, 100)
	checkIs(t, "the zone isn't there", got, n, Dead, api.Faulted, 5)
	if got.C.R[2] != 0x04030201 || got.C.R[1] != 448 {
		t.Errorf("the registers are %v", got.C.R)
	}
	m.Set(256, 64, false)
	got, n = checkSlice(t, "the code isn't there", m, b, 100)
	checkIs(t, "the code isn't there", got, n, Dead, api.Faulted, 1)
}

// TestSliceLastBytes has safe code that touches up to three bytes behind the region: they aren't there.
func TestSliceLastBytes(t *testing.T) {
	for v := uint32(120); v < 128; v++ {
		for _, op := range []api.Ins{do(api.Load, 2, 1), do(api.Store, 1, 2)} {
			m, b := alone(t, row(128), nil, movi(1, v), do(api.MaskD, 1, 0), op)
			got, n := checkSlice(t, "the last bytes", m, b, 3)
			if v > 124 {
				checkIs(t, "the last bytes", got, n, Dead, api.Faulted, 3)
			} else {
				checkIs(t, "the last bytes", got, n, Ready, 0, 3)
			}
		}
	}
}

// TestSliceOver has the gate 0: over, with register 0, at once.
func TestSliceOver(t *testing.T) {
	for _, v := range []uint32{0, 1, 7, 1<<31 - 1, 1 << 31, 1<<32 - 1} {
		m, b := alone(t, nil, nil, movi(0, v), ask(0), movi(0, 3), ask(1))
		got, n := checkSlice(t, "over", m, b, 100)
		checkIs(t, "over", got, n, Over, 0, 2)
		if !got.W.Over || got.W.Code != v || gate.Text(got.W.Trace) != gate.Text([]gate.Event{{V: v}}) || got.C.Pc != 256+6+2 {
			t.Errorf("over with %d: %v", v, got)
		}
		checkStays(t, "over", m, got)
	}
}

// TestSlicePause has the gate 4: the slice ends, and the next one goes on behind it.
func TestSlicePause(t *testing.T) {
	m, b := alone(t, nil, []uint32{5}, ask(1), ask(4), ask(2), ask(4), ask(4), ask(0))
	for i, want := range []struct {
		n, is int
		told  string
	}{
		{2, Ready, "1 0\n"}, {2, Ready, "1 0\n2 5\n"}, {1, Ready, "1 0\n2 5\n"}, {1, Over, "1 0\n2 5\n0 5\n"}, {0, Over, "1 0\n2 5\n0 5\n"},
	} {
		var n int
		b, n = checkSlice(t, "pause", m, b, 100)
		checkIs(t, "pause", b, n, want.is, 0, want.n)
		if got := gate.Text(b.W.Trace); got != want.told {
			t.Errorf("the slice %d tells %q, want %q", i, got, want.told)
		}
	}
}

// TestSliceGates has the gates that a slice goes on behind: 1, 2, 3, and such as are none.
func TestSliceGates(t *testing.T) {
	for n := uint32(1); n < 256; n++ {
		if n == 4 {
			continue
		}
		m, b := raw(t, []uint32{8, 9}, movi(0, 384), movi(1, 4), ask(n), movi(2, 7), ask(n), do(api.Mov, 3, 0), api.Ins{})
		got, made := checkSlice(t, "a gate", m, b, 100)
		checkIs(t, "a gate", got, made, Dead, api.Halted, 7)
		want := "?"
		switch n {
		case 1:
			want = "1 384\n1 384\n"
		case 2:
			want = "2 8\n2 9\n"
		case 3: // the second is of what the first one answered
			want = "3 1463068797\n3 -1\n"
		default:
			want = ""
		}
		if told := gate.Text(got.W.Trace); told != want || got.C.R[2] != 7 {
			t.Errorf("the gate %d: %q, %v, want %q", n, told, got, want)
		}
	}
}

// TestSliceGateLast has each gate as a slice's last step: it is done.
func TestSliceGateLast(t *testing.T) {
	for n := uint32(0); n < 7; n++ {
		m, b := raw(t, []uint32{8}, movi(0, 6), ask(n), ask(1), api.Ins{})
		got, made := checkSlice(t, "last", m, b, 2)
		is := Ready
		if n == 0 {
			is = Over
		}
		checkIs(t, "last", got, made, is, 0, 2)
		if events := len(got.W.Trace); (n < 4) != (events == 1) {
			t.Errorf("the gate %d as the last step: %d events", n, events)
		}
		got, made = checkSlice(t, "behind", m, got, 2)
		if n == 0 {
			checkIs(t, "behind", got, made, Over, 0, 0)
		} else {
			checkIs(t, "behind", got, made, Dead, api.Halted, 2)
		}
	}
}

// TestSliceEndless has code that never ends: just so many steps are made.
func TestSliceEndless(t *testing.T) {
	m, b := alone(t, nil, nil, jmp(-5))
	for _, n := range []int{1, 2, 3, 10, 1000} {
		got, made := checkSlice(t, "endless", m, b, n)
		checkIs(t, "endless", got, made, Ready, 0, n)
	}
	got, n := Slice(m, b, 1<<20)
	checkIs(t, "endless", got, n, Ready, 0, 1<<20)
	m, b = alone(t, nil, nil, movi(1, 1), do(api.Add, 0, 1), ask(1), jmp(-9))
	got, n = Slice(m, b, 1+3<<18)
	checkIs(t, "endless events", got, n, Ready, 0, 1+3<<18)
	for i, e := range got.W.Trace {
		if e != (gate.Event{Gate: 1, V: uint32(i + 1)}) {
			t.Fatalf("the event %d is %v", i, e)
		}
	}
	if k := len(got.W.Trace); k < 1<<18-1 || k > 1<<18 {
		t.Errorf("there are %d events", k)
	}
}

// TestSliceHanded has sandboxes that aren't New's: only one that is ready makes steps, of the processor that it has.
func TestSliceHanded(t *testing.T) {
	m, b := alone(t, row(4), []uint32{5, 6}, ask(2), ask(0))
	for _, is := range []int{1, 2, 3, 4, -1, 256, 1 << 32, math.MaxInt, math.MinInt} {
		b.Is = is
		checkStays(t, "not ready", m, b)
	}
	b.Is = Ready
	for _, w := range []gate.World{
		{Replies: []uint32{5, 6}, Taken: 1, Trace: []gate.Event{{Gate: 9, V: 3}}, Code: 4},
		{Replies: []uint32{5, 6}, Taken: -7},
		{Replies: []uint32{5, 6}, Taken: 7},
		{Replies: []uint32{5, 6}, Taken: 1, Trace: []gate.Event{{V: 3}}, Over: true, Code: 3},
		{},
	} {
		b.W = w
		got, n := checkSlice(t, "another world", m, b, 9)
		checkIs(t, "another world", got, n, Over, 0, 2)
	}
	got, n := checkSlice(t, "no memory", nil, b, 9)
	checkIs(t, "no memory", got, n, Dead, api.Faulted, 1)
	got, n = checkSlice(t, "nothing", nil, Box{}, 9)
	checkIs(t, "nothing", got, n, Dead, api.Faulted, 1)
	for _, c := range []step.Cpu{{Pc: 0}, {Pc: 1<<32 - 1}, {Pc: 1 << 16}, {Pc: 258}, {Pc: 300, Base: 5, Size: 1}, {Pc: 384, Base: 1<<32 - 1, Size: 1<<32 - 1}} {
		b.C = c
		checkSlice(t, "elsewhere", m, b, 9)
	}
}

// TestSliceParts has a slice of a and then of b steps: it is that of both together, where none yields between.
func TestSliceParts(t *testing.T) {
	l := []api.Ins{ask(2), movi(1, 3), do(api.Add, 0, 1), ask(1), do(api.MaskD, 2, 0), do(api.Store, 2, 0), ask(2), ask(1), do(api.MaskD, 2, 0), do(api.Load, 0, 2), ask(0)}
	for a := range 14 {
		for b := range 14 {
			m, x := alone(t, nil, []uint32{5, 9}, l...)
			one, n := checkSlice(t, "both together", m, x, a+b)
			other, x := alone(t, nil, []uint32{5, 9}, l...)
			first, p := checkSlice(t, "the first", other, x, a)
			second, q := checkSlice(t, "the second", other, first, b)
			if !alike(one, second) || n != p+q || !shotOf(m).same(shotOf(other)) {
				t.Errorf("%d steps: %v, %d; %d and %d: %v, %d", a+b, one, n, a, b, second, p+q)
			}
		}
	}
}
