package host

import (
	"slices"
	"testing"

	"corral/api"
	"corral/box"
	"corral/fnv"
	"corral/gate"
	"corral/scan"
	"corral/slab"
	"corral/step"
)

// 14.2, Load

// none is bytes that are no safe image, and chapter 10's error of them.
type none struct {
	name string
	b    []byte
	e    api.Errno
}

// summed answers bytes with their right sum.
func summed(parts ...[]byte) []byte {
	b := slices.Concat(parts...)
	return append(b, fnv.Four(fnv.Sum(b))...)
}

// nones are such of each error.
func nones(t *testing.T) []none {
	good := laid(t, nops(64), row(9))
	other := func(at int) []byte {
		b := slices.Clone(good)
		b[at] ^= 1
		return b
	}
	with := func(at int, b ...byte) []byte {
		return laid(t, slices.Concat(nops(at), b, nops(64-at-len(b))), nil)
	}
	return []none{
		{"nothing, nil", nil, api.ErrForm},
		{"nothing, empty", []byte{}, api.ErrForm},
		{"eleven bytes", []byte("V321\x00\x00\x00\x00\x00\x00\x00"), api.ErrForm},
		{"another letter", summed([]byte("W321"), good[4:len(good)-4]), api.ErrForm},
		{"another digit", summed([]byte("V320"), good[4:len(good)-4]), api.ErrForm},
		{"another byte of code", other(20), api.ErrSum},
		{"another byte of data", other(75), api.ErrSum},
		{"another length", other(4), api.ErrSum},
		{"another sum", other(len(good) - 1), api.ErrSum},
		{"one byte less", good[:len(good)-1], api.ErrSum},
		{"one byte more", append(slices.Clone(good), 0), api.ErrSum},
		{"no code", summed([]byte("V321\x00\x00\x00\x00")), api.ErrSize},
		{"31 bytes of code", summed([]byte("V321\x1f\x00\x00\x00"), nops(31)), api.ErrSize},
		{"4128 bytes of code", summed([]byte("V321\x20\x10\x00\x00"), nops(4128)), api.ErrSize},
		{"4097 bytes of data", summed([]byte("V321\x20\x00\x01\x10"), nops(32), row(4097)), api.ErrSize},
		{"a length beyond what is there", summed([]byte("V321\x40\x00\x00\x00"), nops(32)), api.ErrSize},
		{"4096 bytes of code", laid(t, nops(4096), nil), api.ErrSize},
		{"no operation", with(0, 24), api.ErrForm},
		{"a register that there isn't", with(5, 3, 0x88), api.ErrForm},
		{"parted by a bundle's end", with(31, 3, 0x12), api.ErrForm},
		{"a Load without a mask ahead", with(0, 15, 0x12), api.ErrRule},
		{"a Store alone", with(62, 16, 0x12), api.ErrRule},
		{"a Jr alone", with(10, 21, 0x10), api.ErrRule},
		{"a gate above 4", with(8, 22, 5), api.ErrRule},
		{"a goal ahead of the code", with(0, 19, 250, 255, 255, 255), api.ErrGoal},
		{"a goal behind the code", with(0, 19, 59, 0, 0, 0), api.ErrGoal},
		{"a Jmp into a pair", with(0, 19, 2, 0, 0, 0, 17, 0x20, 15, 0x12), api.ErrGoal},
	}
}

// TestLoadNone has bytes that are no safe image: chapter 10's error, ahead of all others, and nothing changes.
func TestLoadNone(t *testing.T) {
	for _, x := range nones(t) {
		tiny := hosts(t, 64)
		hs := hosts(t, 2048)
		for _, size := range []int{128, 256, 1024, 4096, 16384, 0, -1, 100, 65536} {
			tiny.refused(x.name+", a tiny memory", x.b, size, x.e)
			hs.refused(x.name, x.b, size, x.e)
		}
		hs.loaded("a good one", small(t, ask(0)), 256)
		hs.refused(x.name+", beside one", x.b, 256, x.e)
		full := hosts(t, 8192)
		for range 16 {
			full.loaded("full", small(t, ask(0)), 128)
		}
		for _, size := range []int{128, 0, 1024} {
			full.refused(x.name+", the seventeenth", x.b, size, x.e)
		}
	}
}

// TestLoadNoSize has sizes that no region has: ErrArg, ahead of the room in it and in the memory.
func TestLoadNoSize(t *testing.T) {
	hs, tiny := hosts(t, 65536), hosts(t, 64)
	full := hosts(t, 8192)
	for range 16 {
		full.loaded("full", small(t, ask(0)), 128)
	}
	for _, b := range [][]byte{small(t, ask(0)), laid(t, nops(4064), row(4096))} {
		for _, size := range noSizes {
			hs.refused("no size", b, size, api.ErrArg)
			tiny.refused("no size", b, size, api.ErrArg)
			full.refused("no size", b, size, api.ErrArg)
		}
	}
	hs.loaded("a size", small(t, ask(0)), 128)
}

// TestLoadSizes has each size that a region has, by itself.
func TestLoadSizes(t *testing.T) {
	for _, size := range sizes {
		x := hosts(t, 65536)
		x.loaded("a size", laid(t, nops(32), row(min(size/2, 4096))), size)
		if r := x.h.Regions(); !slices.Equal(r, []slab.Region{{Base: size, Size: size}}) {
			t.Errorf("the regions are %v", r)
		}
	}
}

// TestLoadCode has code that has just room, and 32 bytes more.
func TestLoadCode(t *testing.T) {
	for _, size := range sizes {
		x := hosts(t, 65536)
		x.loaded("code that fits", laid(t, nops(min(size/2-32, 4064)), row(1)), size)
		x.kill("code that fits", 0)
		if size/2 <= 4064 {
			x.refused("32 bytes more", laid(t, nops(size/2), nil), size, api.ErrSize)
			x.refused("32 bytes more, and data", laid(t, nops(size/2), row(size/2)), size, api.ErrSize)
		}
		x.refused("the longest code but one that is too long", laid(t, nops(4096), nil), size, api.ErrSize)
		if size < 8192 {
			x.refused("the longest safe code", laid(t, nops(4064), nil), size, api.ErrSize)
		}
	}
}

// TestLoadData has data as long as half the region, and one byte longer.
func TestLoadData(t *testing.T) {
	for _, size := range sizes {
		x := hosts(t, 65536)
		for _, n := range []int{0, 1, 31, 63, 64, size/2 - 1, size / 2} {
			if n <= 4096 {
				x.loaded("data that fit", laid(t, nops(32), row(n)), size)
				x.kill("data that fit", 0)
			}
		}
		if size < 8192 {
			x.refused("one byte more", laid(t, nops(32), row(size/2+1)), size, api.ErrSize)
			x.refused("the longest data", laid(t, nops(32), row(4096)), size, api.ErrSize)
		}
		x.loaded("the next one", laid(t, nops(32), row(5)), size)
	}
}

// TestLoadTiny has memories without room for a region, and such as have it just so.
func TestLoadTiny(t *testing.T) {
	code := small(t, ask(0))
	for n := 64; n <= 2048; n += 64 {
		for _, size := range sizes {
			x := hosts(t, n)
			if n < 2*size+64 {
				x.refused("no room", code, size, api.ErrSpace)
				continue
			}
			x.loaded("room", code, size)
		}
	}
	for _, size := range sizes {
		hosts(t, 2*size).refused("no room", code, size, api.ErrSpace)
		hosts(t, 2*size+64).loaded("room", code, size)
	}
}

// TestLoadFull fills memories with regions of one size: then there is no place, until one is killed.
func TestLoadFull(t *testing.T) {
	code := small(t, ask(0))
	for _, n := range []int{320, 576, 832, 1024, 2048, 4032, 4096} {
		for _, size := range sizes[:5] {
			x := hosts(t, n)
			many := max(0, n-64) / size / 2
			for i := range min(many, 16) {
				if id := x.loaded("to the full", code, size); id != i {
					t.Errorf("the number is %d, want %d", id, i)
				}
			}
			x.refused("full", code, size, api.ErrSpace)
			if many > 0 {
				x.kill("full", many/2%16)
				x.loaded("a place again", code, size)
				x.refused("full again", code, size, api.ErrSpace)
			}
		}
	}
}

// TestLoadGap has a gap that is just large enough, and ones that aren't.
func TestLoadGap(t *testing.T) {
	code := small(t, ask(0))
	x := hosts(t, 2048)
	for range 7 {
		x.loaded("a row", code, 128)
	}
	if r := x.h.Regions(); r[6] != (slab.Region{Base: 1664, Size: 128}) {
		t.Fatalf("the regions are %v", r)
	}
	x.refused("no place", code, 128, api.ErrSpace)
	x.kill("the one between", 3)
	x.refused("too large for the gap", code, 256, api.ErrSpace)
	x.refused("too large for the gap", code, 512, api.ErrSpace)
	if id := x.loaded("just large enough", code, 128); id != 3 {
		t.Errorf("the number is %d", id)
	}
	x.kill("two side by side", 4)
	x.kill("two side by side", 3)
	x.refused("too large for the gap still", code, 512, api.ErrSpace)
	if id := x.loaded("just large enough", code, 256); id != 3 {
		t.Errorf("the number is %d", id)
	}
	if r := x.h.Regions(); !slices.Contains(r, slab.Region{Base: 1024, Size: 256}) {
		t.Errorf("the regions are %v", r)
	}
	x.refused("what is left of the gap is too small", code, 128, api.ErrSpace)
	x.refused("what is left of the gap is too small", code, 256, api.ErrSpace)
}

// TestLoadSeventeenth has one more than there may be, though there is room.
func TestLoadSeventeenth(t *testing.T) {
	code := small(t, ask(0))
	x := hosts(t, 65536)
	for i := range 16 {
		if id := x.loaded("many", code, 128); id != i {
			t.Errorf("the number is %d, want %d", id, i)
		}
	}
	for _, size := range sizes {
		x.refused("the seventeenth", code, size, api.ErrSpace)
	}
	x.run("over", 5, 9)
	x.refused("one that is over counts", code, 128, api.ErrSpace)
	x.kill("one", 5)
	if id := x.loaded("the sixteenth again", code, 16384); id != 5 {
		t.Errorf("the number is %d", id)
	}
	x.refused("the seventeenth", code, 128, api.ErrSpace)
}

// TestLoadOrder has several errors at once: that which the chapter names first.
func TestLoadOrder(t *testing.T) {
	long, wide := laid(t, nops(96), nil), laid(t, nops(32), row(65))
	full, tiny := hosts(t, 8192), hosts(t, 256)
	for range 16 {
		full.loaded("full", small(t, ask(0)), 128)
	}
	for _, x := range []both{full, tiny} {
		for _, b := range [][]byte{long, wide} {
			x.refused("no size, no fit, no space", b, 127, api.ErrArg)
			x.refused("no size, no fit, no space", b, 32, api.ErrArg)
			x.refused("no fit, no space", b, 128, api.ErrSize)
			x.refused("no space", b, 256, api.ErrSpace)
		}
	}
}

// TestLoadRefused has refused calls between: the bytes, the others, and the next number stay.
func TestLoadRefused(t *testing.T) {
	x := hosts(t, 2048)
	code := laid(t, scan.Pad([]api.Ins{ask(2), mask(1), do(api.Store, 1, 0), ask(4), jmp(-13)}), row(20))
	x.loaded("one", code, 256, 5, 6, 7)
	x.loaded("two", code, 128, 8, 9)
	x.loaded("three", code, 256, 10)
	x.kill("the first", 0)
	for range 3 {
		x.run("two", 1, 5)
		x.run("three", 2, 3)
		x.refused("no image", []byte("V321"), 128, api.ErrForm)
		x.refused("no size", code, 200, api.ErrArg)
		x.refused("no fit", laid(t, nops(64), nil), 128, api.ErrSize)
		x.refused("no space", code, 1024, api.ErrSpace)
	}
	if id := x.loaded("the next one", code, 256, 1); id != 0 {
		t.Errorf("the number is %d", id)
	}
	if id := x.loaded("the next one", code, 128, 2); id != 3 {
		t.Errorf("the number is %d", id)
	}
}

// TestLoadNumber has the least number that is free, after any was killed.
func TestLoadNumber(t *testing.T) {
	code := small(t, ask(0))
	for _, x := range []struct {
		kill, want []int
	}{
		{nil, []int{5, 6}},
		{[]int{0}, []int{0, 5}},
		{[]int{2}, []int{2, 5}},
		{[]int{4}, []int{4, 5}},
		{[]int{3, 1}, []int{1, 3, 5}},
		{[]int{1, 3}, []int{1, 3, 5}},
		{[]int{4, 3, 0}, []int{0, 3, 4, 5}},
		{[]int{0, 1, 2, 3, 4}, []int{0, 1, 2, 3, 4, 5}},
		{[]int{4, 3, 2, 1, 0}, []int{0, 1, 2, 3, 4, 5}},
	} {
		hs := hosts(t, 8192)
		for range 5 {
			hs.loaded("numbers", code, 256)
		}
		for _, id := range x.kill {
			hs.kill("numbers", id)
		}
		for _, want := range x.want {
			if id := hs.loaded("numbers", code, 256); id != want {
				t.Errorf("with %v killed, the number is %d, want %d", x.kill, id, want)
			}
		}
	}
}

// TestLoadPlace has the region that chapter 11 takes among the others', after some were killed too.
func TestLoadPlace(t *testing.T) {
	code := small(t, ask(0))
	x := hosts(t, 16384)
	for i, size := range []int{512, 128, 256, 1024, 128, 2048, 256, 128} {
		if i%3 == 2 {
			x.kill("places", i/3)
		}
		r, e := slab.Take(x.h.Regions(), 16384, size)
		if e != 0 {
			t.Fatalf("Take of %d bytes = %d", size, e)
		}
		id := x.loaded("places", code, size)
		if b, _ := x.h.Box(id); b.C.Base != uint32(r.Base) || b.C.Size != uint32(r.Size) {
			t.Errorf("loaded at %d, %d bytes, want %v", b.C.Base, b.C.Size, r)
		}
	}
}

// TestLoadJust has a sandbox as it was just loaded: registers, place, bytes, also where another one had written.
func TestLoadJust(t *testing.T) {
	x := hosts(t, 2048)
	code := scan.Pad([]api.Ins{movi(2, 64), mask(1), do(api.Store, 1, 2), do(api.Add, 1, 2), mask(1), do(api.Store, 1, 2), ask(1), ask(4)})
	x.loaded("ahead", laid(t, code, row(128)), 256, 1, 2)
	x.run("ahead", 0, 50)
	x.kill("ahead", 0)
	b := laid(t, nops(64), []byte{7, 8, 9})
	id := x.loaded("just loaded", b, 256, 3, 4)
	got, _ := x.h.Box(id)
	want := box.Box{C: step.Cpu{Pc: 256, Base: 256, Size: 256}, W: gate.World{Replies: []uint32{3, 4}}}
	if !alike(got, want) {
		t.Errorf("just loaded: %v", got)
	}
	bytes := append(nops(64), make([]byte, 192)...)
	copy(bytes[128:], []byte{7, 8, 9})
	if got, e := x.h.Bytes(id); e != 0 || !slices.Equal(got, bytes) {
		t.Errorf("just loaded: %v, %d", got, e)
	}
}

// TestLoadHanded changes what was handed in: it isn't kept, and wasn't changed.
func TestLoadHanded(t *testing.T) {
	x := hosts(t, 2048)
	good := laid(t, scan.Pad([]api.Ins{ask(2), ask(2), ask(2), mask(1), do(api.Load, 0, 1), ask(0)}), []byte{9, 0, 0, 0})
	room := append(slices.Clone(good), row(100)...)
	b, kept := room[:len(good)], slices.Clone(room)
	replies := []uint32{5, 6, 7}
	x.loaded("handed", b, 128, replies[:2]...)
	if id, e := x.h.Load(b, 128, replies[:2]); id != 1 || e != 0 {
		t.Fatalf("Load = %d, %d", id, e)
	}
	x.p.load(t, good, 128, []uint32{5, 6})
	if !slices.Equal(room, kept) || !slices.Equal(replies, []uint32{5, 6, 7}) {
		t.Errorf("what was handed in is changed: %v, %v", room, replies)
	}
	clear(room)
	clear(replies)
	x.check("what was handed in is changed behind Load")
	for id := range 2 {
		x.run("handed", id, 9)
		if got := x.told(id); got != "2 5\n2 6\n2 0\n0 9\n" {
			t.Errorf("it tells %q", got)
		}
	}
}
