package gate

import (
	"testing"

	"corral/step"
)

// 12.1, Owns

// checkOwns holds what Owns answers.
func checkOwns(t *testing.T, name string, base, size, at, n uint32, want bool) {
	t.Helper()
	c := step.Cpu{Pc: 5, R: [8]uint32{1, 2, 3, 4, 5, 6, 7, 8}, Base: base, Size: size}
	if got := Owns(c, at, n); got != want {
		t.Errorf("%s: Owns(base %d, size %d, %d, %d) = %t", name, base, size, at, n, got)
	}
}

// places are a region, and where the upper half begins and ends.
type places struct{ base, size, from, behind uint32 }

// regions are of each size that a region may have, of none, one and odd ones, at the beginning, in the midst and near the end of all numbers.
func regions() []places {
	var l []places
	for _, size := range []uint32{0, 1, 2, 3, 4, 5, 63, 64, 127, 128, 129, 255, 256, 512, 1024, 2048, 4096, 8192, 16384, 16385, 65536, 1<<31 - 2, 1 << 31, 1<<31 + 1} {
		for _, base := range []uint32{0, 1, 64, 128, 16384, 65536, 1<<31 - 2} {
			l = append(l, places{base, size, base + size/2, base + size - size%2})
		}
	}
	return l
}

// TestOwnsEdges has bytes at the upper half's beginning, in it, at its end and beyond.
func TestOwnsEdges(t *testing.T) {
	for _, x := range regions() {
		half := x.behind - x.from
		checkOwns(t, "none, at the beginning", x.base, x.size, x.from, 0, true)
		checkOwns(t, "none, in the middle", x.base, x.size, x.from+half/2, 0, true)
		checkOwns(t, "none, right behind", x.base, x.size, x.behind, 0, true)
		checkOwns(t, "none, one further behind", x.base, x.size, x.behind+1, 0, false)
		checkOwns(t, "all", x.base, x.size, x.from, half, true)
		checkOwns(t, "one too many", x.base, x.size, x.from, half+1, false)
		checkOwns(t, "one, right behind", x.base, x.size, x.behind, 1, false)
		checkOwns(t, "many, behind", x.base, x.size, x.behind+1, half, false)
		checkOwns(t, "one, at the beginning", x.base, x.size, x.from, 1, half > 0)
		if x.from > 0 {
			checkOwns(t, "none, one ahead", x.base, x.size, x.from-1, 0, false)
			checkOwns(t, "one, one ahead", x.base, x.size, x.from-1, 1, false)
			checkOwns(t, "all, one ahead", x.base, x.size, x.from-1, half, false)
			checkOwns(t, "more than all, one ahead", x.base, x.size, x.from-1, half+2, false)
		}
		if half > 0 {
			checkOwns(t, "the last one", x.base, x.size, x.behind-1, 1, true)
			checkOwns(t, "the last one, and one more", x.base, x.size, x.behind-1, 2, false)
			checkOwns(t, "all but the first", x.base, x.size, x.from+1, half-1, true)
			checkOwns(t, "all but the first, and one more", x.base, x.size, x.from+1, half, false)
			checkOwns(t, "the lower half", x.base, x.size, x.base, half, false)
			checkOwns(t, "the lower half's last one", x.base, x.size, x.base+half-1, 1, false)
		}
	}
}

// TestOwnsOdd has regions of odd sizes: their last byte is in neither half.
func TestOwnsOdd(t *testing.T) {
	for _, size := range []uint32{1, 3, 5, 127, 129, 16385, 1<<31 - 1} {
		for _, base := range []uint32{0, 1, 4096} {
			checkOwns(t, "the last byte", base, size, base+size-1, 1, false)
			checkOwns(t, "none, at the last byte", base, size, base+size-1, 0, true)
			checkOwns(t, "none, behind the last byte", base, size, base+size, 0, false)
		}
	}
}

// TestOwnsBeyond has places and numbers whose sum is beyond 2^32 - 1: it is no rest.
func TestOwnsBeyond(t *testing.T) {
	for _, x := range []struct {
		base, size, at, n uint32
		want              bool
	}{
		{128, 128, 200, 1<<32 - 1, false},
		{128, 128, 200, 1<<32 - 8, false},   // the rest is the upper half's beginning
		{128, 128, 200, 1<<32 - 200, false}, // the rest is 0
		{128, 128, 192, 1<<32 - 1, false},
		{128, 128, 1<<32 - 1, 200, false},
		{128, 128, 1<<32 - 1, 1, false},
		{128, 128, 1<<32 - 1, 0, false},
		{128, 128, 1<<32 - 1, 1<<32 - 1, false},
		{0, 1<<32 - 1, 1<<31 - 1, 1<<31 - 1, true},
		{0, 1<<32 - 1, 1<<31 - 1, 1 << 31, false},
		{0, 1<<32 - 1, 1<<32 - 2, 0, true},
		{0, 1<<32 - 1, 1<<32 - 1, 0, false},
		{0, 1<<32 - 1, 1<<31 - 2, 1, false},
		// Upper halves that go up to 2^32, and beyond it: no number is there, but bytes are.
		{1<<32 - 128, 128, 1<<32 - 64, 64, true},
		{1<<32 - 128, 128, 1<<32 - 64, 65, false},
		{1<<32 - 128, 128, 1<<32 - 1, 1, true},
		{1<<32 - 128, 128, 0, 0, false},
		{1<<32 - 64, 256, 1<<32 - 1, 0, false},
		{1<<32 - 64, 256, 64, 0, false},
		{1<<32 - 64, 256, 64, 1, false},
		{1<<32 - 64, 256, 100, 20, false},
		{1<<32 - 64, 64, 1<<32 - 32, 32, true},
		{1<<32 - 100, 160, 1<<32 - 20, 20, true},
		{1<<32 - 100, 160, 1<<32 - 20, 80, true},
		{1<<32 - 100, 160, 1<<32 - 20, 81, false},
		{1<<32 - 100, 160, 1<<32 - 1, 61, true},
		{1<<32 - 100, 160, 1<<32 - 1, 62, false},
		{1<<32 - 100, 160, 0, 1, false},
		{1<<32 - 1, 0, 1<<32 - 1, 0, true},
		{1<<32 - 1, 0, 1<<32 - 1, 1, false},
		{1<<32 - 1, 1, 1<<32 - 1, 0, true},
		{1<<32 - 1, 1, 1<<32 - 1, 1, false},
		{1<<32 - 1, 2, 0, 0, false},
		{1<<32 - 1, 2, 1<<32 - 1, 1, false},
		{1<<32 - 1, 1<<32 - 1, 1<<31 - 2, 1, false}, // where the half would begin, if it were a rest
		{1<<32 - 1, 1<<32 - 1, 1<<32 - 1, 1, false},
	} {
		checkOwns(t, "beyond", x.base, x.size, x.at, x.n, x.want)
	}
}

// TestOwnsDrawn has drawn numbers, most of them near edges.
func TestOwnsDrawn(t *testing.T) {
	var d draws = 121
	owned := 0
	for range 200000 {
		c := d.cpu(1000)
		at, n := c.R[0], c.R[1]
		want := plainOwns(c, at, n)
		if want {
			owned++
		}
		if got := Owns(c, at, n); got != want {
			t.Fatalf("Owns(%v, %d, %d) = %t", c, at, n, got)
		}
	}
	if owned < 20000 || owned > 180000 {
		t.Errorf("%d are owned", owned)
	}
}
