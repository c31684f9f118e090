package verify

import (
	"fmt"
	"math"
	"math/big"
	"slices"
	"testing"
)

// 10.2, Fits

// TestFitsEach has just as many bytes as there is room for, and those around, at each size of a region.
func TestFitsEach(t *testing.T) {
	for _, c := range []struct{ size, most int }{{128, 32}, {256, 96}, {512, 224}, {1024, 480}, {2048, 992}, {4096, 2016}, {8192, 4064}, {16384, 8160}} {
		for code := -200; code < c.size+200; code++ {
			if got := Fits(code, c.size); got != (code >= 0 && code <= c.most) {
				t.Errorf("Fits(%d, %d) = %t", code, c.size, got)
			}
		}
	}
}

// numbers are codes and sizes at the edges of an int and of 32 bits.
var numbers = []int{math.MinInt, math.MinInt + 1, math.MinInt + 32, math.MinInt / 2, -1 << 32, -1 << 31, -16384, -256, -128, -32, -1, 1<<31 - 1, 1 << 31, 1<<32 - 1, 1 << 32, 1<<32 + 128, 1 << 62, math.MaxInt - 32, math.MaxInt - 1, math.MaxInt}

// TestFitsEdges has codes that no region has room for, and sizes that no region has.
func TestFitsEdges(t *testing.T) {
	sizes := append([]int{0, 1, 2, 32, 64, 127, 129, 160, 192, 255, 257, 384, 16383, 16385, 24576, 32768, 65536}, numbers...)
	for _, size := range sizes {
		for _, code := range append([]int{0, 1, 32, 96, 4064, 8160}, numbers...) {
			if Fits(code, size) {
				t.Errorf("Fits(%d, %d), but there is no such region", code, size)
			}
		}
	}
	for _, size := range regions {
		for _, code := range numbers {
			if Fits(code, size) {
				t.Errorf("Fits(%d, %d), but there is no such room", code, size)
			}
		}
	}
}

// TestFitsSizes has all sizes up to beyond the greatest one.
func TestFitsSizes(t *testing.T) {
	for size := -1000; size < 70000; size++ {
		for _, code := range []int{0, 1, 31, 32} {
			if got := Fits(code, size); got != slices.Contains(regions, size) {
				t.Errorf("Fits(%d, %d) = %t", code, size, got)
			}
		}
	}
}

// 10.2, Inside

// plainInside reckons with numbers without an end.
func plainInside(base, size, at uint32) bool {
	b, s, a := big.NewInt(int64(base)), big.NewInt(int64(size)), big.NewInt(int64(at))
	return a.Cmp(b) >= 0 && a.Cmp(s.Add(s, b)) < 0
}

// TestInsideWritten has places around the edges of regions.
func TestInsideWritten(t *testing.T) {
	for _, c := range []struct {
		base, size, at uint32
		want           bool
	}{
		{64, 64, 63, false}, {64, 64, 64, true}, {64, 64, 65, true}, {64, 64, 126, true}, {64, 64, 127, true}, {64, 64, 128, false}, {64, 64, 129, false},
		{64, 0, 63, false}, {64, 0, 64, false}, {64, 0, 65, false}, {64, 1, 63, false}, {64, 1, 64, true}, {64, 1, 65, false},
		{0, 0, 0, false}, {0, 0, top, false}, {0, 1, 0, true}, {0, 1, 1, false}, {0, 1, top, false}, {0, top, 0, true}, {0, top, top - 1, true}, {0, top, top, false},
		{top, 0, top, false}, {top, 1, top, true}, {top, 1, 0, false}, {top, 1, top - 1, false}, {top, top, top, true}, {top, top, 0, false}, {top, top, top - 2, false},
		{1, top, 0, false}, {1, top, 1, true}, {1, top, top, true}, {2, top, 0, false}, {2, top, 1, false}, {2, top, top, true},
		{top - 63, 64, top, true}, {top - 63, 64, top - 63, true}, {top - 63, 64, top - 64, false}, {top - 63, 64, 0, false},
		{top - 63, 128, top, true}, {top - 63, 128, 0, false}, {top - 63, 128, 63, false}, {top - 63, 128, 64, false},
		{1 << 31, 1 << 31, top, true}, {1 << 31, 1 << 31, 1 << 31, true}, {1 << 31, 1 << 31, 1<<31 - 1, false}, {1 << 31, 1 << 31, 0, false},
		{16384, 16384, 16384, true}, {16384, 16384, 32767, true}, {16384, 16384, 32768, false}, {16384, 16384, 16383, false},
	} {
		if got := Inside(c.base, c.size, c.at); got != c.want {
			t.Errorf("Inside(%d, %d, %d) = %t", c.base, c.size, c.at, got)
		}
	}
}

// TestInside has all of some numbers near the edges of 32 bits, and near each other.
func TestInside(t *testing.T) {
	var near []uint32
	for _, n := range []uint32{0, 64, 128, 192, 16384, 1 << 31, top, top - 127} {
		for by := range uint32(5) {
			near = append(near, n+by-2)
		}
	}
	for _, base := range near {
		for _, size := range near {
			for _, at := range append([]uint32{base - 1, base, base + 1, base + size - 1, base + size, base + size + 1}, near...) {
				if got := Inside(base, size, at); got != plainInside(base, size, at) {
					t.Errorf("Inside(%d, %d, %d) = %t", base, size, at, got)
				}
			}
		}
	}
}

func ExampleFits() {
	fmt.Println(Fits(32, 128), Fits(33, 128))
	// Output: true false
}
