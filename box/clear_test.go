package box

import (
	"math"
	"testing"

	"corral/api"
	"corral/image"
	"corral/mem"
	"corral/slab"
)

// 13.1, Clear

// checkClear holds that a region's zones aren't there any more, and that those around it stay.
func checkClear(t *testing.T, name string, m *mem.Mem, r slab.Region) {
	t.Helper()
	want := shotOf(m)
	for i := range want {
		if at := 64 * i; at >= r.Base && at < r.Base+r.Size {
			want[i] = nil
		}
	}
	if e := Clear(m, r); e != 0 {
		t.Errorf("%s: Clear(%v) = %d", name, r, e)
	}
	if !shotOf(m).same(want) {
		t.Errorf("%s: by Clear(%v) the memory is not as it should be", name, r)
	}
}

// checkNoClear holds that Clear answers ErrArg, and changes nothing.
func checkNoClear(t *testing.T, name string, m *mem.Mem, r slab.Region) {
	t.Helper()
	before := shotOf(m)
	if e := Clear(m, r); e != api.ErrArg {
		t.Errorf("%s: Clear(%v) = %d", name, r, e)
	}
	if !shotOf(m).same(before) {
		t.Errorf("%s: Clear(%v), which is refused, changed the memory", name, r)
	}
}

// TestClear clears regions of sandboxes, and ones that are partly there, or not at all.
func TestClear(t *testing.T) {
	for _, size := range sizes {
		r := slab.Region{Base: size, Size: size}
		for by := range 5 {
			m := filled(t, 2*size+128, by)
			checkClear(t, "partly there", m, r)
			checkClear(t, "twice", m, r)
			made(t, m, r, image.Image{Code: nops(32), Data: row(size / 2)}, nil)
			checkClear(t, "a sandbox's", m, r)
			for at := size; at < 2*size; at += 63 {
				if m.There(at) {
					t.Errorf("the byte %d is there still", at)
				}
			}
			m.Set(size, size, true)
			if b, ok := m.Read(size, size); !ok || string(b) != string(make([]byte, size)) {
				t.Errorf("something of what was there is kept")
			}
		}
	}
}

// TestClearAny clears what chapter 3 takes though it is no region of a memory.
func TestClearAny(t *testing.T) {
	for _, r := range regions([][2]int{{0, 64}, {0, 0}, {0, 1024}, {64, 64}, {64, 192}, {64, 0}, {192, 832}, {960, 64}, {1024, 0}, {512, 512}, {320, 320}, {0, 960}}) {
		checkClear(t, "any", filled(t, 1024, 0), r)
		checkClear(t, "any, of each other one", filled(t, 1024, 2), r)
	}
}

// TestClearNone has what chapter 3 refuses.
func TestClearNone(t *testing.T) {
	m := filled(t, 1024, 3)
	for _, r := range regions([][2]int{
		{1, 64}, {63, 64}, {64, 1}, {64, 63}, {64, 65}, {32, 32}, {0, 1088}, {64, 1024}, {960, 128}, {1024, 64}, {1088, 0}, {1088, 64},
		{-64, 64}, {-64, 128}, {-64, 0}, {-1, 0}, {64, -64}, {1024, -64}, {0, -64}, {128, -1}, {65536, 64},
		{1 << 32, 64}, {0, 1 << 32}, {1 << 62, 1 << 62}, {1<<32 + 64, 64}, {64, 1<<32 + 64},
		{math.MaxInt, math.MaxInt}, {math.MaxInt - 63, 64}, {math.MinInt, 64}, {64, math.MinInt}, {math.MinInt, math.MinInt}, {64, math.MaxInt - 63}, {math.MaxInt - 63, math.MinInt}, {math.MinInt, math.MaxInt - 63},
	}) {
		checkNoClear(t, "none", m, r)
	}
	for _, r := range regions([][2]int{{}, {0, 64}, {64, 0}, {256, 256}, {-64, 64}}) {
		checkNoClear(t, "no memory", nil, r)
	}
}

// TestClearAmong clears one of several sandboxes: the others go on.
func TestClearAmong(t *testing.T) {
	m := filled(t, 2048, 0)
	x := image.Image{Code: code(ask(2), ask(0)), Data: row(5)}
	one := made(t, m, slab.Region{Base: 256, Size: 256}, x, []uint32{1})
	two := made(t, m, slab.Region{Base: 768, Size: 256}, x, []uint32{2})
	checkClear(t, "among", m, slab.Region{Base: 256, Size: 256})
	if one, n := Slice(m, one, 9); n != 1 || one.Is != Dead || one.What != api.Faulted {
		t.Errorf("that which is cleared: %v, %d", one, n)
	}
	if two, n := Slice(m, two, 9); n != 2 || two.Is != Over || two.W.Code != 2 {
		t.Errorf("the other one: %v, %d", two, n)
	}
	checkNew(t, "in the same place", m, slab.Region{Base: 256, Size: 256}, x, []uint32{3})
}
