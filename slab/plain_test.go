package slab

import (
	"math"
	"math/big"
	"slices"
	"testing"

	"corral/api"
)

// This file has the chapter's words written out once more, and what the tests build lists of.

// sizes are those that a region may have.
var sizes = []int{128, 256, 512, 1024, 2048, 4096, 8192, 16384}

// wrongSizes are sizes that no region has.
var wrongSizes = []int{
	math.MinInt, math.MinInt + 1, math.MinInt + 128, math.MinInt / 2, -1 << 32, -1 << 31, -16384, -256, -128, -64, -1, 0, 1, 2, 4, 8, 16, 32, 64, 100,
	127, 129, 160, 192, 255, 257, 384, 511, 513, 16383, 16385, 24576, 32768, 65536, 1<<31 - 1, 1 << 31, 1 << 32, 1<<32 + 128, 1 << 62, math.MaxInt - 127, math.MaxInt - 1, math.MaxInt,
}

// wrongBytes are numbers of bytes that no memory has.
var wrongBytes = []int{math.MinInt, math.MinInt + 1, math.MinInt + 63, math.MinInt + 20000, -1 << 62, -1 << 32, -65536, -512, -1, 65537, 65600, 131072, 1 << 31, 1 << 32, 1<<32 + 512, 1 << 62, math.MaxInt - 64, math.MaxInt}

// plainApart tells, with numbers of any size, whether 64 bytes or more lie from the end of one up to the other.
func plainApart(a, b Region) bool {
	between := func(a, b Region) *big.Int {
		n := big.NewInt(int64(b.Base))
		n.Sub(n, big.NewInt(int64(a.Base)))
		return n.Sub(n, big.NewInt(int64(a.Size)))
	}
	guard := big.NewInt(64)
	return between(a, b).Cmp(guard) >= 0 || between(b, a).Cmp(guard) >= 0
}

// plainRight tells, byte by byte of a memory, whether regions are right.
func plainRight(l []Region, n int) bool {
	if n < 0 || n > 65536 {
		return false
	}
	owner := make([]int, n) // which region a byte is of, counted from 1 on
	for i, x := range l {
		if !slices.Contains(sizes, x.Size) || x.Base <= 0 || x.Base > n-x.Size || x.Base%x.Size != 0 || i > 0 && l[i-1].Base >= x.Base {
			return false
		}
		for at := x.Base; at < x.Base+x.Size; at++ {
			if owner[at] != 0 {
				return false
			}
			owner[at] = i + 1
		}
	}
	for i, x := range l {
		for by := 1; by <= 64; by++ {
			ahead, behind := x.Base-by, x.Base+x.Size+by-1
			if ahead < 0 || behind >= n || owner[ahead] != 0 && owner[ahead] != i+1 || owner[behind] != 0 && owner[behind] != i+1 {
				return false
			}
		}
	}
	return true
}

// with answers right regions with one more, in its place by its base.
func with(l []Region, x Region) []Region {
	l = append(slices.Clone(l), x)
	slices.SortStableFunc(l, func(a, b Region) int { return a.Base - b.Base })
	return l
}

// plainTake tries each base that regions of a size begin at, from the least one on.
func plainTake(l []Region, n, size int) (Region, api.Errno) {
	for base := 0; base <= n; base += size {
		x := Region{base, size}
		if plainRight(with(l, x), n) {
			return x, 0
		}
	}
	return Region{}, 7
}

// draws are numbers that follow each other by a rule, so that each run of the tests has the same.
type draws uint32

// below draws one from 0 to below n.
func (d *draws) below(n int) int {
	*d = *d*1664525 + 1013904223
	return int(uint64(*d) * uint64(n) >> 32)
}

// checkRight holds what Right answers.
func checkRight(t *testing.T, name string, l []Region, n int, want bool) {
	t.Helper()
	if got := Right(l, n); got != want {
		t.Errorf("%s: Right(%v, %d) = %t", name, l, n, got)
	}
}

// checkTake holds what Take answers: a region of a base, or an error and nothing beside it if the base is below 0.
func checkTake(t *testing.T, name string, l []Region, n, size, base int, want api.Errno) {
	t.Helper()
	wanted := Region{base, size}
	if want != 0 {
		wanted = Region{}
	}
	if got, e := Take(l, n, size); got != wanted || e != want {
		t.Errorf("%s: Take(%v, %d, %d) = %v, %d, want %v, %d", name, l, n, size, got, e, wanted, want)
	}
}
