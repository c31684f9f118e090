package slab

import (
	"fmt"
	"math"
	"slices"
	"testing"

	"corral/api"
)

// 11.2, Take

// TestTakeExample has the chapter's example.
func TestTakeExample(t *testing.T) {
	checkTake(t, "the example", nil, 512, 128, 128, 0)
}

// TestTakeOfNone has each size, in memories with one place for it, and in ones a byte too small.
func TestTakeOfNone(t *testing.T) {
	for _, size := range sizes {
		for _, l := range [][]Region{nil, {}} {
			for _, n := range []int{0, 1, 63, 64, size - 1, size, size + 64, 2*size - 1, 2 * size, 2*size + 1, 2*size + 63} {
				checkTake(t, "no place", l, n, size, 0, 7)
			}
			for _, n := range []int{2*size + 64, 2*size + 65, 3 * size, 4*size - 1, 65535, 65536} {
				checkTake(t, "a place", l, n, size, size, 0)
			}
		}
	}
}

// TestTakeErrors has lists that aren't right, sizes that are none, and memories without a place, and more than one of these at a time.
func TestTakeErrors(t *testing.T) {
	bad := [][]Region{
		{{0, 128}}, {{-128, 128}}, {{64, 128}}, {{128, 64}}, {{128, 0}}, {{128, -128}}, {{128, 128}, {256, 128}}, {{384, 128}, {128, 128}}, {{128, 128}, {128, 128}}, {{512, 512}, {640, 128}},
		{{65408, 128}}, {{math.MaxInt - 127, 128}}, {{math.MinInt, 128}}, {{128, math.MaxInt}}, {{}}, append(many(), Region{16384, 128}), append(many(), Region{}),
	}
	for _, size := range append(slices.Clone(wrongSizes), sizes...) {
		for _, l := range bad {
			checkTake(t, "not right", l, 65536, size, 0, 12)
		}
		for _, n := range wrongBytes {
			checkTake(t, "no memory", nil, n, size, 0, 12)
			checkTake(t, "no memory", []Region{{128, 128}}, n, size, 0, 12)
		}
		checkTake(t, "a memory too small", many(), 65471, size, 0, 12)
		checkTake(t, "a memory too small", []Region{{128, 128}}, 319, size, 0, 12)
		checkTake(t, "a memory too small", []Region{{128, 128}}, 0, size, 0, 12)
	}
	for _, size := range wrongSizes {
		checkTake(t, "a wrong size", nil, 65536, size, 0, 1)
		checkTake(t, "a wrong size", many(), 65536, size, 0, 1)
		checkTake(t, "a wrong size, and no place", nil, 0, size, 0, 1)
		checkTake(t, "a wrong size, and no place", []Region{{128, 128}}, 320, size, 0, 1)
	}
}

// TestTakeSizes has all sizes up to beyond the greatest one.
func TestTakeSizes(t *testing.T) {
	for size := -1000; size < 70000; size++ {
		if slices.Contains(sizes, size) {
			checkTake(t, "a size", nil, 65536, size, size, 0)
		} else {
			checkTake(t, "no size", nil, 65536, size, 0, 1)
		}
	}
}

// TestTakeLeast has places ahead of the first region, in between two, behind the last, and ones that a guard forbids.
func TestTakeLeast(t *testing.T) {
	for _, c := range []struct {
		name          string
		l             []Region
		n, size, base int // a base of 0: there is no place
	}{
		{"ahead of the first", []Region{{512, 512}}, 4096, 128, 128},
		{"ahead of the first, as near as may be", []Region{{384, 128}}, 4096, 128, 128},
		{"ahead of the first, a great one", []Region{{16384, 16384}}, 65536, 4096, 4096},
		{"the guard of the first forbids what is ahead", []Region{{256, 128}}, 4096, 128, 512},
		{"the guard of the first forbids what is ahead", []Region{{256, 256}}, 4096, 128, 640},
		{"the guard of the first forbids what is ahead", []Region{{512, 128}}, 4096, 256, 768},
		{"in between", []Region{{128, 128}, {640, 128}}, 4096, 128, 384},
		{"in between", []Region{{128, 128}, {1024, 1024}}, 4096, 256, 512},
		{"in between, the first of many places", []Region{{128, 128}, {8192, 128}}, 16384, 128, 384},
		{"in between the second and the third", []Region{{128, 128}, {384, 128}, {896, 128}}, 4096, 128, 640},
		{"guards forbid what is in between", []Region{{128, 128}, {512, 128}}, 4096, 128, 768},
		{"too little in between", []Region{{128, 128}, {640, 128}}, 4096, 256, 1024},
		{"behind the last", []Region{{128, 128}}, 4096, 128, 384},
		{"behind the last, a great one", []Region{{128, 128}}, 4096, 1024, 1024},
		{"behind the last and its guard", []Region{{256, 256}}, 4096, 512, 1024},
		{"behind the last, up to the end", []Region{{128, 128}}, 576, 128, 384},
		{"a byte too few behind the last", []Region{{128, 128}}, 575, 128, 0},
		{"the guard of the last forbids what is behind", []Region{{128, 128}}, 448, 128, 0},
		{"one in the only place", []Region{{640, 128}}, 1088, 512, 0},
		{"one at the beginning of the only place", []Region{{512, 128}}, 1088, 512, 0},
		{"one at the end of the only place", []Region{{896, 128}}, 1088, 512, 0},
		{"one right ahead of the only place", []Region{{384, 128}}, 1088, 512, 0},
		{"one right behind the only place", []Region{{1024, 128}}, 1216, 512, 0},
		{"one ahead of the only place", []Region{{256, 128}}, 1088, 512, 512},
		{"one behind the only place", []Region{{1152, 128}}, 1344, 512, 512},
		{"a great one around all the places", []Region{{1024, 1024}}, 2112, 1024, 0},
		{"many", many(), 65536, 128, 1664},
		{"many", many(), 65536, 256, 3328},
		{"many", many(), 65536, 8192, 0},
		{"many", many(), 65536, 16384, 0},
		{"many, without one in between", slices.Delete(many(), 7, 8), 65536, 8192, 16384},
		{"many, without the first", many()[1:], 65536, 128, 128},
		{"many, without the last", many()[:10], 65536, 4096, 53248},
		{"many, without the last", many()[:10], 65536, 8192, 0},
	} {
		want := api.Errno(0)
		if c.base == 0 {
			want = 7
		}
		checkTake(t, c.name, c.l, c.n, c.size, c.base, want)
	}
}

// TestTakeEnd has lists of regions behind which there is just room for one more, and a byte less.
func TestTakeEnd(t *testing.T) {
	for _, size := range sizes {
		var l []Region
		for base := size; base+size+64 <= 65536; base += 2 * size {
			checkTake(t, "a byte too few", l, base+size+63, size, 0, 7)
			checkTake(t, "just room", l, base+size+64, size, base, 0)
			checkTake(t, "much room", l, 65536, size, base, 0)
			l = append(l, Region{base, size})
		}
		checkTake(t, "full", l, 65536, size, 0, 7)
	}
}

// TestTakePlain has all that can be taken beside two regions of a small memory, held against the plain way.
func TestTakePlain(t *testing.T) {
	for a := 128; a < 1500; a += 128 {
		for b := a + 128; b < 1700; b += 128 {
			for _, l := range [][]Region{{{a, 128}}, {{a, 128}, {b, 128}}, {{a, 128}, {b, 256}}, {{a, 256}, {b, 128}}} {
				checkTakes(t, l, 2048)
				checkTakes(t, l, 1984)
			}
		}
	}
}

// checkTakes holds what Take answers of each of the lesser sizes against the plain way.
func checkTakes(t *testing.T, l []Region, n int) {
	t.Helper()
	for _, size := range sizes[:4] {
		want, e := plainTake(l, n, size)
		if !plainRight(l, n) {
			want, e = Region{}, 12
		}
		checkTake(t, "two regions", l, n, size, want.Base, e)
	}
}

// 11.2, Add

// checkAdd holds what Add answers.
func checkAdd(t *testing.T, l []Region, x Region, want []Region) {
	t.Helper()
	if got := Add(l, x); !slices.Equal(got, want) {
		t.Errorf("Add(%v, %v) = %v, want %v", l, x, got, want)
	}
}

// TestAdd has places ahead of all, in between, behind all, in lists of none, one and more, and bases that are there.
func TestAdd(t *testing.T) {
	a, b, c := Region{128, 128}, Region{512, 256}, Region{1024, 1024}
	for _, l := range [][]Region{nil, {}, make([]Region, 0, 5)} {
		checkAdd(t, l, b, []Region{b})
		checkAdd(t, l, Region{}, []Region{{}})
	}
	checkAdd(t, []Region{b}, a, []Region{a, b})
	checkAdd(t, []Region{b}, c, []Region{b, c})
	checkAdd(t, []Region{b, c}, a, []Region{a, b, c})
	checkAdd(t, []Region{a, c}, b, []Region{a, b, c})
	checkAdd(t, []Region{a, b}, c, []Region{a, b, c})
	l := []Region{a, b, c}
	checkAdd(t, l, Region{128, 1}, []Region{a, {128, 1}, b, c})
	checkAdd(t, l, Region{512, 1}, []Region{a, b, {512, 1}, c})
	checkAdd(t, l, Region{512, 999}, []Region{a, b, {512, 999}, c})
	checkAdd(t, l, Region{1024, 0}, []Region{a, b, c, {1024, 0}})
	checkAdd(t, l, Region{127, 0}, []Region{{127, 0}, a, b, c})
	checkAdd(t, l, Region{129, 0}, []Region{a, {129, 0}, b, c})
	checkAdd(t, l, b, []Region{a, b, b, c})
	checkAdd(t, []Region{{5, 1}, {5, 2}, {5, 3}}, Region{5, 0}, []Region{{5, 1}, {5, 2}, {5, 3}, {5, 0}})
	checkAdd(t, []Region{{5, 1}, {5, 2}, {6, 3}}, Region{5, 9}, []Region{{5, 1}, {5, 2}, {5, 9}, {6, 3}})
	checkAdd(t, []Region{{4, 1}, {6, 2}, {6, 3}}, Region{5, 9}, []Region{{4, 1}, {5, 9}, {6, 2}, {6, 3}})
}

// TestAddUnsorted has lists that don't rise: behind all whose base is no greater.
func TestAddUnsorted(t *testing.T) {
	checkAdd(t, []Region{{5, 1}, {1, 1}}, Region{3, 1}, []Region{{5, 1}, {1, 1}, {3, 1}})
	checkAdd(t, []Region{{5, 1}, {1, 1}, {9, 1}, {7, 1}}, Region{3, 1}, []Region{{5, 1}, {1, 1}, {3, 1}, {9, 1}, {7, 1}})
	checkAdd(t, []Region{{9, 1}, {7, 1}}, Region{3, 1}, []Region{{3, 1}, {9, 1}, {7, 1}})
}

// TestAddNumbers has bases at the edges of an int, and sizes that don't count for the place.
func TestAddNumbers(t *testing.T) {
	const least, greatest = math.MinInt, math.MaxInt
	l := []Region{{least, 7}, {-1, greatest}, {0, least}, {greatest, 0}}
	checkAdd(t, l, Region{least, least}, []Region{l[0], {least, least}, l[1], l[2], l[3]})
	checkAdd(t, l, Region{least + 1, greatest}, []Region{l[0], {least + 1, greatest}, l[1], l[2], l[3]})
	checkAdd(t, l, Region{-1, 3}, []Region{l[0], l[1], {-1, 3}, l[2], l[3]})
	checkAdd(t, l, Region{1, 3}, []Region{l[0], l[1], l[2], {1, 3}, l[3]})
	checkAdd(t, l, Region{greatest - 1, 3}, []Region{l[0], l[1], l[2], {greatest - 1, 3}, l[3]})
	checkAdd(t, l, Region{greatest, greatest}, []Region{l[0], l[1], l[2], l[3], {greatest, greatest}})
	checkAdd(t, l[1:], Region{least, 1}, []Region{{least, 1}, l[1], l[2], l[3]})
}

// 11.2, Drop

// checkDrop holds what Drop answers: a list, or nothing beside an error.
func checkDrop(t *testing.T, l []Region, base int, want []Region, wanted api.Errno) {
	t.Helper()
	if got, e := Drop(l, base); !slices.Equal(got, want) || e != wanted {
		t.Errorf("Drop(%v, %d) = %v, %d, want %v, %d", l, base, got, e, want, wanted)
	}
}

// TestDrop has the first, one in between, the last, and the first one of several with a base.
func TestDrop(t *testing.T) {
	a, b, c := Region{128, 128}, Region{512, 256}, Region{1024, 1024}
	checkDrop(t, []Region{a}, 128, nil, 0)
	checkDrop(t, []Region{a, b}, 128, []Region{b}, 0)
	checkDrop(t, []Region{a, b}, 512, []Region{a}, 0)
	checkDrop(t, []Region{a, b, c}, 128, []Region{b, c}, 0)
	checkDrop(t, []Region{a, b, c}, 512, []Region{a, c}, 0)
	checkDrop(t, []Region{a, b, c}, 1024, []Region{a, b}, 0)
	checkDrop(t, []Region{a, {512, 1}, {512, 2}, c}, 512, []Region{a, {512, 2}, c}, 0)
	checkDrop(t, []Region{{5, 1}, {5, 2}, {5, 3}}, 5, []Region{{5, 2}, {5, 3}}, 0)
	checkDrop(t, []Region{c, {5, 1}, a, {5, 2}, b}, 5, []Region{c, a, {5, 2}, b}, 0)
	checkDrop(t, []Region{a, b, b, a}, 128, []Region{b, b, a}, 0)
	checkDrop(t, []Region{{}, {}}, 0, []Region{{}}, 0)
	checkDrop(t, []Region{{math.MinInt, 1}, {-1, 2}, {math.MaxInt, 3}}, math.MinInt, []Region{{-1, 2}, {math.MaxInt, 3}}, 0)
	checkDrop(t, []Region{{math.MinInt, 1}, {-1, 2}, {math.MaxInt, 3}}, math.MaxInt, []Region{{math.MinInt, 1}, {-1, 2}}, 0)
}

// TestDropNone has bases where none begins, though some are within a region, or its end, or its size.
func TestDropNone(t *testing.T) {
	for _, base := range []int{math.MinInt, -512, -128, -1, 0, 1, 64, 127, 129, 256, 511, 513, 640, 768, 1025, 2047, 2048, 1 << 32, 1<<32 + 128, math.MaxInt} {
		checkDrop(t, nil, base, nil, 8)
		checkDrop(t, []Region{}, base, nil, 8)
		checkDrop(t, []Region{{128, 256}}, base, nil, 8)
		checkDrop(t, []Region{{128, 128}, {512, 256}, {1024, 1024}}, base, nil, 8)
	}
}

// Rule 4: what is handed in isn't changed or kept, what is handed out is new memory.

// spare answers a list with room behind it, and the same with its room.
func spare(l []Region) (some, whole []Region) {
	whole = append(slices.Clone(l), Region{71, 72}, Region{73, 74}, Region{75, 76})
	return whole[:len(l)], whole
}

// spoil writes over a list, and over the room behind it.
func spoil(l []Region) {
	l = l[:cap(l)]
	for i := range l {
		l[i] = Region{-7, -7}
	}
}

// TestMemory has each call with lists that have room behind them, writes over what one answered, and asks again.
func TestMemory(t *testing.T) {
	lists := [][]Region{nil, {}, {{128, 128}}, {{128, 128}, {512, 256}}, {{128, 128}, {512, 256}, {1024, 1024}}, many()}
	for _, l := range lists {
		for _, base := range []int{0, 128, 384, 512, 1024, 49280, 65280, 70000} {
			some, whole := spare(l)
			before := slices.Clone(whole)
			Right(some, 65536)
			Take(some, 65536, 128)
			added, dropped := Add(some, Region{base, 128}), first(Drop(some, base))
			again, once := Add(some, Region{base, 128}), first(Drop(some, base))
			if !slices.Equal(whole, before) {
				t.Fatalf("a list with room, %v, became %v", before, whole)
			}
			wantAdded, wantDropped := slices.Clone(added), slices.Clone(dropped)
			spoil(added)
			spoil(dropped)
			if !slices.Equal(whole, before) || !slices.Equal(again, wantAdded) || !slices.Equal(once, wantDropped) {
				t.Fatalf("what Add and Drop of %v answered shares memory", l)
			}
			spoil(whole)
			if !slices.Equal(again, wantAdded) || !slices.Equal(once, wantDropped) {
				t.Fatalf("what Add and Drop of %v answered shares its memory", l)
			}
		}
	}
}

// first answers the list alone.
func first(l []Region, _ api.Errno) []Region { return l }

func ExampleTake() {
	fmt.Println(Take(nil, 512, 128))
	fmt.Println(Take([]Region{{128, 128}}, 512, 128))
	// Output:
	// {128 128} 0
	// {0 0} 7
}
