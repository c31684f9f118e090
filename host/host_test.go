package host

import (
	"math"
	"slices"
	"testing"

	"corral/api"
	"corral/mem"
	"corral/slab"
)

// 14.1

// TestExample has the chapter's example.
func TestExample(t *testing.T) {
	h, e := New(1024)
	if e != 0 {
		t.Fatalf("New = %d", e)
	}
	id, e := h.Load(laid(t, make([]byte, 32), nil), 128, nil)
	if id != 0 || e != 0 {
		t.Errorf("Load = %d, %d", id, e)
	}
	if b, e := h.Box(0); e != 0 || b.C.Base != 128 || b.C.Size != 128 || b.C.Pc != 128 {
		t.Errorf("Box = %v, %d", b, e)
	}
	if r := h.Regions(); !slices.Equal(r, []slab.Region{{Base: 128, Size: 128}}) {
		t.Errorf("Regions = %v", r)
	}
}

// checkNew holds what New answers: chapter 3's error and nil beside it, or a host with no region and no byte there.
func checkNew(t *testing.T, n int) {
	t.Helper()
	h, e := New(n)
	_, want := mem.New(n)
	if e != want || (h == nil) != (want != 0) {
		t.Fatalf("New(%d) = %v, %d, want %d", n, h, e, want)
	}
	if h == nil {
		return
	}
	if r := h.Regions(); len(r) != 0 {
		t.Errorf("New(%d): the regions are %v", n, r)
	}
	for at := -1; at <= n; at++ {
		if h.There(at) {
			t.Fatalf("New(%d): the byte %d is there", n, at)
		}
	}
	for _, id := range append(noNumbers, 0, 1, 15) {
		if _, e := h.Box(id); e != api.ErrNone {
			t.Errorf("New(%d): Box(%d) = %d", n, id, e)
		}
	}
}

// TestNew has hosts of many numbers of bytes.
func TestNew(t *testing.T) {
	for n := -130; n < 1200; n++ {
		checkNew(t, n)
	}
	for _, n := range []int{65472, 65535, 65536, 65537, 65600, 131072, 1 << 31, 1 << 32, 1<<32 + 64, 1 << 62, math.MaxInt - 63, math.MaxInt, -64, -65536, -1 << 31, -1 << 32, -1<<32 + 64, math.MinInt + 64, math.MinInt} {
		checkNew(t, n)
	}
}

// TestNewErrors has which numbers of bytes may not be, written out.
func TestNewErrors(t *testing.T) {
	for _, n := range []int{math.MinInt, -64, -1, 0, 1, 63, 65, 100, 65535, 65600, math.MaxInt} {
		if h, e := New(n); h != nil || e != api.ErrArg {
			t.Errorf("New(%d) = %v, %d", n, h, e)
		}
	}
	for _, n := range []int{64, 128, 320, 1024, 65472, 65536} {
		if h, e := New(n); h == nil || e != api.OK {
			t.Errorf("New(%d) = %v, %d", n, h, e)
		}
	}
}

// TestNewApart has two hosts: what becomes of one isn't to be seen in the other.
func TestNewApart(t *testing.T) {
	one, two := hosts(t, 1024), hosts(t, 1024)
	one.loaded("one", small(t, ask(2), ask(0)), 128, 5)
	two.check("the other one is loaded")
	two.loaded("two", small(t, ask(2), ask(0)), 256, 6)
	two.run("two", 0, 9)
	one.check("the other one has run")
	one.run("one", 0, 9)
	two.kill("two", 0)
	one.check("the other one's is killed")
}

// TestThere asks each byte of a memory with regions, and ones beyond it.
func TestThere(t *testing.T) {
	x := hosts(t, 4096)
	code := small(t, ask(0))
	x.loaded("there", code, 1024)
	x.loaded("there", code, 128)
	x.loaded("there", code, 512)
	x.loaded("there", code, 256)
	want := []slab.Region{{Base: 128, Size: 128}, {Base: 512, Size: 256}, {Base: 1024, Size: 1024}, {Base: 2560, Size: 512}}
	if got := x.h.Regions(); !slices.Equal(got, want) {
		t.Fatalf("Regions = %v", got)
	}
	is := func(at int) bool {
		return slices.ContainsFunc(want, func(r slab.Region) bool { return at >= r.Base && at < r.Base+r.Size })
	}
	for at := -4200; at < 9000; at++ {
		if got := x.h.There(at); got != is(at) {
			t.Errorf("There(%d) = %t", at, got)
		}
	}
	for _, at := range []int{65535, 65536, 65536 + 128, 1 << 31, 1<<31 + 128, 1 << 32, 1<<32 + 128, 1 << 62, math.MaxInt, math.MaxInt - 1024, -1 << 31, -1 << 32, -1<<32 + 128, math.MinInt, math.MinInt + 128, math.MinInt + 1024} {
		if x.h.There(at) {
			t.Errorf("There(%d)", at)
		}
	}
}

// TestThereKilled asks the bytes of a region that was killed among others.
func TestThereKilled(t *testing.T) {
	x := hosts(t, 2048)
	for range 3 {
		x.loaded("there", small(t, ask(0)), 256)
	}
	x.kill("the one between", 1)
	for at := -1; at <= 2048; at++ {
		if got, want := x.h.There(at), at >= 256 && at < 512 || at >= 1280 && at < 1536; got != want {
			t.Errorf("There(%d) = %t", at, got)
		}
	}
}

// TestRegions has them rise, in whichever order they were loaded.
func TestRegions(t *testing.T) {
	code := small(t, ask(0))
	for _, x := range []struct {
		sizes []int
		want  []slab.Region
	}{
		{nil, nil},
		{[]int{256}, []slab.Region{{Base: 256, Size: 256}}},
		{[]int{128, 256, 512}, []slab.Region{{Base: 128, Size: 128}, {Base: 512, Size: 256}, {Base: 1024, Size: 512}}},
		{[]int{1024, 512, 256, 128}, []slab.Region{{Base: 256, Size: 256}, {Base: 640, Size: 128}, {Base: 1024, Size: 1024}, {Base: 2560, Size: 512}}},
		{[]int{512, 128, 2048, 128, 256}, []slab.Region{{Base: 128, Size: 128}, {Base: 512, Size: 512}, {Base: 1152, Size: 128}, {Base: 1536, Size: 256}, {Base: 2048, Size: 2048}}},
	} {
		hs := hosts(t, 8192)
		for _, size := range x.sizes {
			hs.loaded("regions", code, size)
		}
		if got := hs.h.Regions(); !slices.Equal(got, x.want) {
			t.Errorf("regions of %v are %v, want %v", x.sizes, got, x.want)
		}
	}
}

// TestRegionsMany has as many as there may be, of which some are killed and others loaded: asked often, the answer is the same one.
func TestRegionsMany(t *testing.T) {
	x := hosts(t, 65536)
	code := small(t, ask(0))
	for i := range 16 {
		x.loaded("many", code, sizes[(i*5+3)%5])
	}
	for range 40 {
		x.check("asked again")
	}
	for _, id := range []int{7, 0, 15, 8} {
		x.kill("many", id)
	}
	x.loaded("anew", code, 1024)
	x.loaded("anew", code, 128)
}

// TestRegionsHanded changes what is handed out, spare room included.
func TestRegionsHanded(t *testing.T) {
	x := hosts(t, 4096)
	x.loaded("handed", small(t, ask(0)), 128)
	x.loaded("handed", small(t, ask(0)), 256)
	x.loaded("handed", small(t, ask(0)), 128)
	first, second := x.h.Regions(), x.h.Regions()
	first = first[:cap(first)]
	for i := range first {
		first[i] = slab.Region{Base: 3072, Size: 512}
	}
	if !slices.Equal(second, x.p.regions()) {
		t.Errorf("an answer is changed through another one: %v", second)
	}
	x.check("the regions handed out are changed")
	x.loaded("the regions handed out are changed", small(t, ask(0)), 512)
	if !slices.Equal(second, []slab.Region{{Base: 128, Size: 128}, {Base: 512, Size: 256}, {Base: 896, Size: 128}}) {
		t.Errorf("an earlier answer is changed: %v", second)
	}
}
