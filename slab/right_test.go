package slab

import (
	"math"
	"slices"
	"testing"
)

// 11.1, Apart

// checkApart holds what Apart answers, in either order.
func checkApart(t *testing.T, a, b Region, want bool) {
	t.Helper()
	if got := Apart(a, b); got != want {
		t.Errorf("Apart(%v, %v) = %t", a, b, got)
	}
	if got := Apart(b, a); got != want {
		t.Errorf("Apart(%v, %v) = %t", b, a, got)
	}
}

// TestApartWritten has regions with bytes in between, and with none.
func TestApartWritten(t *testing.T) {
	for _, c := range []struct {
		a, b Region
		want bool
	}{
		{Region{128, 128}, Region{320, 128}, true}, {Region{128, 128}, Region{319, 128}, false}, {Region{128, 128}, Region{321, 128}, true},
		{Region{128, 128}, Region{384, 128}, true}, {Region{128, 128}, Region{1024, 1024}, true}, {Region{0, 64}, Region{127, 64}, false}, {Region{0, 64}, Region{128, 64}, true},
		{Region{128, 128}, Region{256, 128}, false}, {Region{128, 128}, Region{257, 128}, false}, // touching, and a byte in between
		{Region{128, 128}, Region{255, 128}, false}, {Region{128, 128}, Region{192, 128}, false}, // overlapping
		{Region{1024, 1024}, Region{1280, 256}, false}, {Region{1024, 1024}, Region{1024, 128}, false}, // one within the other
		{Region{1024, 1024}, Region{1920, 128}, false}, {Region{1024, 1024}, Region{1408, 128}, false}, // with many bytes up to the other's ends
		{Region{128, 128}, Region{128, 128}, false}, {Region{16384, 16384}, Region{16384, 16384}, false}, // equal
		{Region{5, 3}, Region{72, 1}, true}, {Region{5, 3}, Region{71, 1}, false}, {Region{-100, 36}, Region{0, 9}, true}, // of numbers that no region of a memory has
		{Region{-100, 37}, Region{0, 9}, false}, {Region{-1, 1}, Region{64, 1}, true}, {Region{-1, 2}, Region{64, 1}, false}, // around 0
		{Region{0, 0}, Region{0, 0}, false}, {Region{0, 0}, Region{63, 0}, false}, {Region{0, 0}, Region{64, 0}, true}, // without bytes
		{Region{10, 0}, Region{0, 200}, false}, {Region{100, 0}, Region{0, 200}, false}, {Region{264, 0}, Region{0, 200}, true}, // one without, one with
		{Region{16384, 16384}, Region{32832, 16384}, true}, {Region{16384, 16384}, Region{32831, 16384}, false}, {Region{}, Region{}, false},
	} {
		checkApart(t, c.a, c.b, c.want)
	}
}

// bytesBetween counts the bytes that are behind all of one small region's and ahead of all of the other one's.
func bytesBetween(a, b Region) int {
	n := 0
	for at := range 400 {
		if at >= a.Base+a.Size && at < b.Base || at >= b.Base+b.Size && at < a.Base {
			n++
		}
	}
	return n
}

// TestApartSmall has all small regions around another one, byte by byte.
func TestApartSmall(t *testing.T) {
	for _, a := range []Region{{100, 1}, {130, 40}, {200, 128}, {163, 64}} {
		for base := range 400 {
			for _, size := range []int{1, 2, 3, 4, 5, 63, 64, 65, 128} {
				b := Region{base, size}
				checkApart(t, a, b, bytesBetween(a, b) >= 64)
			}
		}
	}
}

// TestApartExtreme has regions whose ends, or what lies in between, are beyond an int.
func TestApartExtreme(t *testing.T) {
	const least, greatest = math.MinInt, math.MaxInt
	for _, c := range []struct {
		a, b Region
		want bool
	}{
		{Region{least, 128}, Region{greatest, 128}, true}, {Region{least, 0}, Region{greatest, 0}, true}, {Region{least, 1}, Region{greatest, 1}, true},
		{Region{least, greatest}, Region{greatest, 1}, true}, {Region{least, greatest}, Region{63, 1}, true}, {Region{least, greatest}, Region{62, 1}, false},
		{Region{greatest, 128}, Region{greatest, 128}, false}, {Region{least, 128}, Region{least, 128}, false}, {Region{greatest, greatest}, Region{greatest, greatest}, false},
		{Region{greatest, 128}, Region{0, 128}, true}, {Region{least, 128}, Region{0, 128}, true}, {Region{greatest - 10, 128}, Region{least + 200, 128}, true},
		{Region{greatest - 127, 128}, Region{greatest - 127 - 192, 128}, true}, {Region{greatest - 127, 128}, Region{greatest - 127 - 191, 128}, false},
		{Region{greatest - 63, 1}, Region{greatest, greatest}, false}, {Region{greatest - 64, 1}, Region{greatest, greatest}, false}, {Region{greatest - 65, 1}, Region{greatest, greatest}, true},
		{Region{greatest - 64, 0}, Region{greatest, greatest}, true}, {Region{greatest - 63, 0}, Region{greatest, 0}, false},
		{Region{0, greatest}, Region{greatest, 1}, false}, {Region{-64, greatest}, Region{greatest, 1}, true}, {Region{-63, greatest}, Region{greatest, 1}, false},
		{Region{0, greatest}, Region{-64, 0}, true}, {Region{0, greatest}, Region{-64, 1}, false}, {Region{0, greatest}, Region{-65, 1}, true}, {Region{0, greatest}, Region{1000, 128}, false},
		{Region{100, greatest}, Region{90, greatest}, false}, {Region{1, greatest}, Region{least, 128}, true}, {Region{greatest, greatest}, Region{least, greatest}, true},
		{Region{-1, greatest}, Region{greatest, greatest}, false}, {Region{least, 1}, Region{least + 65, 1}, true}, {Region{least, 1}, Region{least + 64, 1}, false},
		{Region{least, 1}, Region{least + 65, greatest}, true}, {Region{least, greatest}, Region{least + 65, 1}, false},
	} {
		checkApart(t, c.a, c.b, c.want)
	}
}

// TestApartPlain has all of many numbers at the edges of an int, near each other, and unlike in what fours leave over.
func TestApartPlain(t *testing.T) {
	var near []int
	for _, n := range []int{math.MinInt, math.MinInt / 2, -1 << 32, -64, 0, 64, 128, 1 << 32, math.MaxInt / 2, math.MaxInt - 66, math.MaxInt - 2} {
		for by := range 3 {
			near = append(near, n+by)
		}
	}
	for _, a := range near {
		for _, b := range near {
			for _, size := range near {
				for _, other := range []int{0, 1, 127, 128, size, math.MinInt, math.MaxInt} {
					checkApart(t, Region{a, size}, Region{b, other}, plainApart(Region{a, size}, Region{b, other}))
				}
				for by := 60; by < 69; by++ {
					checkApart(t, Region{a, size}, Region{a + size + by, 128}, plainApart(Region{a, size}, Region{a + size + by, 128}))
				}
			}
		}
	}
}

// 11.1, Right

// TestRightNone has no regions, in memories of many bytes.
func TestRightNone(t *testing.T) {
	for _, l := range [][]Region{nil, {}, make([]Region, 0, 9)} {
		for _, n := range []int{0, 1, 63, 64, 65, 127, 128, 512, 65472, 65535, 65536} {
			checkRight(t, "none", l, n, true)
		}
		for _, n := range wrongBytes {
			checkRight(t, "none", l, n, false)
		}
	}
}

// TestRightBytes has a region that is right, of numbers of bytes that no memory has.
func TestRightBytes(t *testing.T) {
	l := []Region{{128, 128}, {512, 256}}
	for _, n := range wrongBytes {
		checkRight(t, "no memory", l, n, false)
	}
	for n := range 65537 {
		if got := Right(l, n); got != (n >= 832) {
			t.Fatalf("Right(%v, %d) = %t", l, n, got)
		}
	}
}

// TestRightSizes has a region of each size there is, at each of its places in a memory as great as there is, and where it has none.
func TestRightSizes(t *testing.T) {
	for _, size := range sizes {
		for base := -2 * size; base <= 65536+size; base += size / 4 {
			want := base > 0 && base%size == 0 && base+size+64 <= 65536
			checkRight(t, "a size", []Region{{base, size}}, 65536, want)
		}
		for by := 1; by < 130; by++ {
			for _, base := range []int{size - by, size + by, 2*size - by} {
				checkRight(t, "a place", []Region{{base, size}}, 65536, base > 0 && base%size == 0)
			}
		}
	}
	for size := -2000; size < 70000; size++ {
		if got := Right([]Region{{16384, size}}, 65536); got != slices.Contains(sizes, size) {
			t.Errorf("Right of a region of %d bytes = %t", size, got)
		}
	}
}

// TestRightNumbers has sizes that no region has, at bases that would suit them, and bases that no region has.
func TestRightNumbers(t *testing.T) {
	for _, size := range wrongSizes {
		for _, base := range []int{size, -size, 2 * size, 0, 64, 128, 384, 16384, math.MinInt, math.MaxInt} {
			checkRight(t, "a wrong size", []Region{{base, size}}, 65536, false)
		}
	}
	for _, size := range sizes {
		for _, base := range []int{math.MinInt, math.MinInt + size, -1 << 32, -size, 0, 1 << 16, 1 << 17, 1 << 31, 1 << 32, 1<<32 + size, 1 << 62, math.MaxInt - size + 1, math.MaxInt - 63, math.MaxInt} {
			checkRight(t, "a wrong base", []Region{{base, size}}, 65536, false)
		}
	}
}

// TestRightEnd has a region whose end is 64 bytes ahead of the memory's end, and nearer, and none.
func TestRightEnd(t *testing.T) {
	for _, size := range sizes {
		for _, base := range []int{size, 2 * size} {
			for by := -size - 200; by < 200; by++ {
				checkRight(t, "an end", []Region{{base, size}}, base+size+by, by >= 64)
				if base > 256 {
					checkRight(t, "an end behind another", []Region{{128, 128}, {base, size}}, base+size+by, by >= 64 && (size > 256 || base > size))
				}
			}
		}
	}
	checkRight(t, "the greatest region, last of all", []Region{{32768, 16384}}, 65536, true)
	checkRight(t, "the greatest region, without a guard", []Region{{49152, 16384}}, 65536, false)
	checkRight(t, "the least region, last of all", []Region{{65280, 128}}, 65536, true)
	checkRight(t, "the least region, without a guard", []Region{{65408, 128}}, 65536, false)
}

// TestRightNeighbours has two with few bytes in between: as a region begins at a multiple of its size, there are 128 between those that are right.
func TestRightNeighbours(t *testing.T) {
	for by := -200; by <= 400; by++ {
		checkRight(t, "neighbours", []Region{{128, 128}, {256 + by, 128}}, 4096, by > 0 && by%128 == 0)
		checkRight(t, "neighbours, the lower one not at its place", []Region{{1024 - 128 - by, 128}, {1024, 1024}}, 4096, by > 0 && by%128 == 0)
	}
	for _, c := range []struct {
		a, b Region
		want bool
	}{
		{Region{128, 128}, Region{320, 128}, false}, {Region{128, 128}, Region{319, 128}, false}, {Region{128, 128}, Region{320, 64}, false}, {Region{128, 64}, Region{256, 128}, false},
		{Region{128, 128}, Region{256, 128}, false}, {Region{128, 128}, Region{256, 256}, false}, {Region{256, 256}, Region{512, 512}, false}, {Region{256, 256}, Region{512, 128}, false},
		{Region{128, 128}, Region{384, 128}, true}, {Region{128, 128}, Region{512, 512}, true}, {Region{256, 256}, Region{640, 128}, true},
		{Region{512, 512}, Region{640, 128}, false}, {Region{512, 512}, Region{896, 128}, false}, {Region{512, 512}, Region{512, 128}, false}, {Region{512, 128}, Region{512, 512}, false},
		{Region{128, 128}, Region{128, 128}, false}, {Region{1024, 1024}, Region{1024, 1024}, false},
		{Region{384, 128}, Region{128, 128}, false}, {Region{1024, 256}, Region{128, 128}, false}, {Region{2048, 1024}, Region{512, 512}, false},
	} {
		checkRight(t, "neighbours", []Region{c.a, c.b}, 4096, c.want)
	}
}

// many answers regions of unlike sizes that are right in a memory of 65536 bytes.
func many() []Region {
	return []Region{{128, 128}, {512, 256}, {1024, 512}, {2048, 1024}, {4096, 2048}, {6272, 128}, {8192, 4096}, {16384, 8192}, {32768, 16384}, {49280, 128}, {65280, 128}}
}

// TestRightMany has each fault at each place of a list: the only one, the first, in between, the last.
func TestRightMany(t *testing.T) {
	checkRight(t, "many", many(), 65536, true)
	for from := range many() {
		for to := from + 1; to <= len(many()); to++ {
			l := many()[from:to]
			checkRight(t, "some of many", l, 65536, true)
			for i := range l {
				checkFaults(t, l, i)
			}
		}
	}
}

// checkFaults holds that a list isn't right if there is a fault in its region i.
func checkFaults(t *testing.T, l []Region, i int) {
	t.Helper()
	x := l[i]
	for _, wrong := range []Region{
		{0, x.Size}, {-x.Base, x.Size}, {x.Base - 1, x.Size}, {x.Base + 1, x.Size}, {x.Base + 64, x.Size}, {x.Base - 64, x.Size}, {x.Base, 0}, {x.Base, -x.Size}, {x.Base, 64}, {x.Base, 192}, {x.Base, x.Size + 1}, {x.Base, x.Size - 1}, {x.Base, 32768},
		{65536 - x.Size, x.Size}, {65536, x.Size}, {math.MaxInt - x.Size + 1, x.Size}, {math.MinInt, x.Size}, {x.Base, math.MaxInt}, {x.Base, math.MinInt}, {},
	} {
		bad := slices.Clone(l)
		bad[i] = wrong
		checkRight(t, "a fault", bad, 65536, false)
	}
	checkRight(t, "one twice", slices.Insert(slices.Clone(l), i, x), 65536, false)
	checkRight(t, "one touched", slices.Insert(slices.Clone(l), i+1, Region{x.Base + x.Size, 128}), 65536, false)
	checkRight(t, "one touched ahead", slices.Insert(slices.Clone(l), i, Region{x.Base - 128, 128}), 65536, false)
	if i > 0 {
		swapped := slices.Clone(l)
		swapped[i-1], swapped[i] = swapped[i], swapped[i-1]
		checkRight(t, "two that don't rise", swapped, 65536, false)
		checkRight(t, "the first one, behind", append(slices.Clone(l[1:]), l[0]), 65536, false)
	}
}

// TestRightPlain has drawn lists, near to right ones, held against the plain way.
func TestRightPlain(t *testing.T) {
	var d draws = 11
	right := 0
	for range 20000 {
		n := d.below(4096)
		var l []Region
		base := 0
		for range 1 + d.below(4) {
			base += 128 * (1 + d.below(6))
			size := sizes[d.below(3)]
			if d.below(4) > 0 {
				base = (base + size - 1) / size * size
			}
			l = append(l, Region{base, size})
			if d.below(4) > 0 {
				base += size
			}
		}
		want := plainRight(l, n)
		checkRight(t, "drawn", l, n, want)
		if want {
			right++
		}
	}
	if right < 2000 || right > 18000 {
		t.Errorf("%d of those that were drawn are right", right)
	}
}
