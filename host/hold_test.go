package host

import (
	"slices"
	"testing"

	"corral/api"
	"corral/box"
	"corral/gate"
	"corral/scan"
	"corral/slab"
)

// 14.3

// checkRegions holds that a host's regions are right, and that just their bytes are there.
func checkRegions(t *testing.T, h *Host, n int) {
	t.Helper()
	rs := h.Regions()
	if !slab.Right(rs, n) {
		t.Fatalf("the regions %v of %d bytes aren't right", rs, n)
	}
	is := make([]bool, n)
	for _, r := range rs {
		for at := r.Base; at < r.Base+r.Size; at++ {
			is[at] = true
		}
	}
	for at, want := range is {
		if h.There(at) != want {
			t.Fatalf("There(%d) = %t, of the regions %v", at, !want, rs)
		}
	}
}

// draw makes a drawn call, of each kind, at both hosts, and tells which one: a letter.
func (x both) draw(d *draws) byte {
	x.t.Helper()
	size := sizes[d.below(1+d.below(6))]
	switch d.below(12) {
	case 0, 1, 2:
		if _, e := x.load("drawn", d.image(x.t, size), size, d.replies()); e != 0 {
			return 'f'
		}
		return 'l'
	case 3:
		b := d.image(x.t, size)
		b[d.below(len(b))] ^= byte(1 + d.below(255))
		x.load("a byte changed", b, size, nil)
		return 'x'
	case 4:
		x.load("another size", d.image(x.t, size), []int{128, 256, 0, 100, -128, 512}[d.below(6)], nil)
		return 's'
	case 5:
		x.kill("drawn", d.below(17)-d.below(2))
		return 'k'
	}
	x.run("drawn", d.below(17)-d.below(2), d.below(120)-3)
	return 'r'
}

// TestHoldDrawn has drawn calls of all kinds: each sandbox is as it would be in a memory of its own, and the regions are right.
func TestHoldDrawn(t *testing.T) {
	var d draws = 14
	calls, ends, most := map[byte]int{}, map[[2]int]int{}, 0
	for range 60 {
		n := 64 * (1 + d.below(1+d.below(300)))
		x := hosts(t, n)
		for range 120 {
			calls[x.draw(&d)]++
			checkRegions(t, x.h, n)
			most = max(most, len(x.h.Regions()))
		}
		for id := range 16 {
			if b, e := x.h.Box(id); e == 0 {
				ends[[2]int{b.Is, b.What}]++
			}
		}
	}
	for _, call := range []byte("lfxskr") {
		if calls[call] < 100 {
			t.Errorf("only %d calls %c", calls[call], call)
		}
	}
	for _, end := range [][2]int{{box.Ready, 0}, {box.Over, 0}, {box.Dead, api.Halted}, {box.Dead, api.Trapped}, {box.Dead, api.Faulted}} {
		if ends[end] < 3 {
			t.Errorf("only %d came to %v: %v", ends[end], end, ends)
		}
	}
	if most < 16 {
		t.Errorf("there were %d at once, at most", most)
	}
}

// call is one that went well: a Load with a size, or a Kill of a number, if that is 0.
type call struct{ size, id int }

// ownHost answers a host of n bytes that has gone through calls, with a sandbox loaded behind them that is alone there then.
func ownHost(t *testing.T, n int, calls []call, b []byte, size int, replies []uint32) *Host {
	t.Helper()
	h, _ := New(n)
	inert := laid(t, make([]byte, 32), nil)
	for _, c := range calls {
		if c.size > 0 {
			h.Load(inert, c.size, nil)
		} else {
			h.Kill(c.id)
		}
	}
	own, e := h.Load(b, size, replies)
	if e != 0 {
		t.Fatalf("Load in a host of its own = %d", e)
	}
	for id := range 16 {
		if id != own {
			h.Kill(id)
		}
	}
	if len(h.Regions()) != 1 {
		t.Fatalf("it isn't alone: %v", h.Regions())
	}
	return h
}

// checkAlone holds that a sandbox is as it is in a host of its own.
func checkAlone(t *testing.T, h, own *Host, id int) {
	t.Helper()
	one, e := h.Box(id)
	two, f := own.Box(id)
	if e != 0 || f != 0 || !alike(one, two) {
		t.Fatalf("among others %d is %v, %d, alone %v, %d", id, one, e, two, f)
	}
	bytes, e := h.Bytes(id)
	if owns, f := own.Bytes(id); e != 0 || f != 0 || !slices.Equal(bytes, owns) {
		t.Fatalf("among others the bytes of %d are %v, %d, alone %v, %d", id, bytes, e, owns, f)
	}
}

// TestHoldAlone has sandboxes that are loaded, run, killed and loaded anew among others: slice by slice each is as one that stands alone in a host of its own.
func TestHoldAlone(t *testing.T) {
	var d draws = 141
	slicesMade, anew := 0, 0
	for range 40 {
		n := 64 * (40 + d.below(300))
		h, _ := New(n)
		var calls []call
		owns := map[int]*Host{}
		for range 150 {
			id := d.below(16)
			own := owns[id]
			switch {
			case own == nil || d.below(12) == 0:
				size := sizes[d.below(1+d.below(5))]
				b, replies := d.image(t, size), d.replies()
				id, e := h.Load(b, size, replies)
				if e != 0 {
					continue
				}
				owns[id] = ownHost(t, n, calls, b, size, replies)
				calls = append(calls, call{size: size})
				anew++
			case d.below(9) == 0:
				h.Kill(id)
				owns[id] = nil
				calls = append(calls, call{id: id})
			default:
				steps := d.below(60)
				p, e := h.Run(id, steps)
				q, f := own.Run(id, steps)
				if p != q || e != 0 || f != 0 {
					t.Fatalf("a slice of %d: among others %d, %d, alone %d, %d", steps, p, e, q, f)
				}
				slicesMade++
			}
			for id, own := range owns {
				if own != nil {
					checkAlone(t, h, own, id)
				}
			}
		}
	}
	if slicesMade < 1000 || anew < 500 {
		t.Errorf("only %d slices were made, %d loaded", slicesMade, anew)
	}
}

// TestHoldReach has a sandbox that tries to reach its neighbours: their bytes stay, and nothing of them is told.
func TestHoldReach(t *testing.T) {
	for _, size := range sizes[1:4] {
		for off := -2*size - 8; off < 3*size; off += 31 {
			x := hosts(t, 8192)
			still := laid(t, nops(32), row(size/2))
			x.loaded("a neighbour", still, size)
			at := uint32(3*size + off)
			// It writes at an address, sums up 4 bytes from there on, reads there, and tells both.
			id := x.loaded("it reaches out", small(t, movi(0, at), movi(1, 4), ask(3), ask(1), movi(2, at), movi(3, 0xfefdfcfb), mask(2), do(api.Store, 2, 3), mask(2), do(api.Load, 0, 2), ask(1), ask(0)), size)
			x.loaded("a neighbour", still, size)
			if b, _ := x.h.Box(id); b.C.Base != uint32(3*size) {
				t.Fatalf("it is at %d", b.C.Base)
			}
			x.run("it reaches out", id, 99)
			for _, neighbour := range []int{0, 2} {
				if bytes, _ := x.h.Bytes(neighbour); !slices.Equal(bytes[size/2:], row(size/2)) {
					t.Fatalf("the neighbour %d has %v", neighbour, bytes)
				}
			}
			owns := off >= size/2 && off+4 <= size
			if told := x.told(id); (told[:4] == "3 -1") == owns {
				t.Errorf("the sum from %d on, in a region at %d of %d, is told as %q", at, 3*size, size, told)
			}
			x.kill("it reached out", id)
			x.run("a neighbour", 0, 3)
		}
	}
}

// TestHoldUnlike has two sandboxes of one image, with unlike replies: each has its own events.
func TestHoldUnlike(t *testing.T) {
	x := hosts(t, 2048)
	b := small(t, ask(2), ask(1), ask(4), jmp(-11))
	x.loaded("unlike", b, 128, 1, 2, 3)
	x.loaded("unlike", b, 128, 9)
	for range 3 {
		x.run("unlike", 0, 5)
		x.run("unlike", 1, 5)
	}
	if one, two := x.told(0), x.told(1); one != "2 1\n1 1\n2 2\n1 2\n2 3\n1 3\n" || two != "2 9\n1 9\n2 0\n1 0\n2 0\n1 0\n" {
		t.Errorf("they tell %q and %q", one, two)
	}
}

// TestHoldTold changes nothing of one answer by a later call: what is handed out stays as it was, whatever becomes of the sandbox.
func TestHoldTold(t *testing.T) {
	x := hosts(t, 1024)
	x.loaded("told", laid(t, scan.Pad([]api.Ins{movi(3, 9), mask(1), do(api.Store, 1, 3), ask(2), ask(1), ask(0)}), row(9)), 256, 5, 6)
	x.run("told", 0, 4)
	b, _ := x.h.Box(0)
	bytes, _ := x.h.Bytes(0)
	regions := x.h.Regions()
	kept, copied := slices.Clone(bytes), slices.Clone(regions)
	x.run("told", 0, 9)
	x.kill("told", 0)
	x.loaded("told", small(t, ask(2), ask(2), ask(0)), 128, 8, 9)
	x.run("told", 0, 9)
	if gate.Text(b.W.Trace) != "2 5\n" || !slices.Equal(b.W.Replies, []uint32{5, 6}) || !slices.Equal(bytes, kept) || !slices.Equal(regions, copied) {
		t.Errorf("earlier answers are %v, %v, %v", b, bytes, regions)
	}
}

// TestHoldAgain has two hosts to which the same is done: they answer the same.
func TestHoldAgain(t *testing.T) {
	for seed := range draws(20) {
		one, two := seed, seed
		x, y := hosts(t, 16384), hosts(t, 16384)
		for range 60 {
			a, b := x.draw(&one), y.draw(&two)
			if a != b || !slices.Equal(x.h.Regions(), y.h.Regions()) {
				t.Fatalf("%c and %c, %v and %v", a, b, x.h.Regions(), y.h.Regions())
			}
		}
		for id := range 16 {
			if _, e := x.h.Box(id); e == 0 {
				checkAlone(t, x.h, y.h, id)
			}
		}
	}
}
