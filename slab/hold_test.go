package slab

import (
	"slices"
	"testing"
)

// 11.3

// manyBytes are numbers of bytes that memories have: around those at which a place comes, up to the greatest one.
func manyBytes() []int {
	l := []int{0, 1, 63, 64, 127, 128, 191, 192, 255, 256, 300, 65472, 65535, 65536}
	for n := 320; n < 65536; n += n / 5 / 64 * 64 {
		l = append(l, n-1, n, n+1)
	}
	return l
}

// TestTakeUntilFull takes regions of one size until there is no place, and counts them.
func TestTakeUntilFull(t *testing.T) {
	for _, n := range manyBytes() {
		for _, size := range sizes {
			var l []Region
			for {
				x, e := Take(l, n, size)
				if e != 0 {
					checkTake(t, "full", l, n, size, 0, 7)
					break
				}
				// As no two touch, each second place of the size is taken.
				if want := (Region{size * (2*len(l) + 1), size}); x != want {
					t.Fatalf("Take(%v, %d, %d) = %v, want %v", l, n, size, x, want)
				}
				l = Add(l, x)
				checkRight(t, "what is taken", l, n, true)
			}
			if want := max(0, n-64) / size / 2; len(l) != want {
				t.Errorf("%d regions of %d bytes in %d bytes, want %d", len(l), size, n, want)
			}
			checkDropEach(t, l, n)
		}
	}
}

// checkDropEach drops some of a full memory's regions, one at a time, the first and the last among them: each is taken again, as there is no other place.
func checkDropEach(t *testing.T, l []Region, n int) {
	t.Helper()
	for i := 0; i < len(l); i = max(i+1, min(i+len(l)/5, len(l)-1)) {
		m, e := Drop(l, l[i].Base)
		if e != 0 || len(m) != len(l)-1 {
			t.Fatalf("Drop(%v, %d) = %v, %d", l, l[i].Base, m, e)
		}
		checkRight(t, "what is left", m, n, true)
		checkTake(t, "what was dropped", m, n, l[i].Size, l[i].Base, 0)
		if got := Add(m, l[i]); !slices.Equal(got, l) {
			t.Errorf("Add(%v, %v) = %v", m, l[i], got)
		}
	}
}

// TestTakenAndDropped takes and drops regions of drawn sizes, in memories of many sizes.
func TestTakenAndDropped(t *testing.T) {
	var d draws = 21
	taken, full, dropped := 0, 0, 0
	for _, n := range manyBytes() {
		var l []Region
		for range 60 {
			if len(l) > 0 && d.below(3) == 0 {
				l = dropOne(t, l, n, d.below(len(l)))
				dropped++
				continue
			}
			before := len(l)
			l = takeOne(t, l, n, sizes[d.below(1+d.below(len(sizes)))])
			if len(l) > before {
				taken++
			} else {
				full++
			}
		}
		checkFill(t, l, n, &d)
	}
	if taken < 200 || full < 200 || dropped < 200 {
		t.Errorf("%d taken, %d times full, %d dropped", taken, full, dropped)
	}
}

// takeOne holds that what Take answers is right with the others, that no lesser base would do, and that none would if it answers none; it answers the regions then.
func takeOne(t *testing.T, l []Region, n, size int) []Region {
	t.Helper()
	x, e := Take(l, n, size)
	wanted, none := leastRight(l, n, size)
	if x != wanted || (e == 7) != none || (e == 0) == none {
		t.Fatalf("Take(%v, %d, %d) = %v, %d, want %v, none %t", l, n, size, x, e, wanted, none)
	}
	if none {
		return l
	}
	m := Add(l, x)
	if !slices.Equal(m, with(l, x)) || !Right(m, n) || !plainRight(m, n) {
		t.Fatalf("%v was taken and added: %v isn't right in %d bytes", x, m, n)
	}
	return m
}

// leastRight answers the region of the least base that is right with others, base by base, and whether there is none.
func leastRight(l []Region, n, size int) (x Region, none bool) {
	for base := 0; base <= n; base += 64 {
		x := Region{base, size}
		if base+size+64 <= n && base > 0 && base%size == 0 && !slices.ContainsFunc(l, func(y Region) bool { return !plainApart(x, y) }) {
			return x, false
		}
	}
	return Region{}, true
}

// dropOne drops region i, holds that one of its size can be taken again, at its place or a lesser one, and answers the regions then.
func dropOne(t *testing.T, l []Region, n, i int) []Region {
	t.Helper()
	x := l[i]
	m, e := Drop(l, x.Base)
	if e != 0 || !slices.Equal(m, slices.Delete(slices.Clone(l), i, i+1)) || !Right(m, n) {
		t.Fatalf("Drop(%v, %d) = %v, %d", l, x.Base, m, e)
	}
	if got := Add(m, x); !slices.Equal(got, l) || !Right(got, n) {
		t.Fatalf("%v was dropped and added: %v", x, got)
	}
	y, e := Take(m, n, x.Size)
	if e != 0 || y.Base > x.Base || y.Size != x.Size || !Right(Add(m, y), n) {
		t.Fatalf("%v was dropped, Take(%v, %d, %d) = %v, %d", x, m, n, x.Size, y, e)
	}
	return m
}

// checkFill takes regions of every size until the memory is full for it, the sizes in a drawn order.
func checkFill(t *testing.T, l []Region, n int, d *draws) {
	t.Helper()
	for from := d.below(len(sizes)); len(l) < 40; from++ {
		size := sizes[from%len(sizes)]
		m := takeOne(t, l, n, size)
		if len(m) == len(l) && slices.IndexFunc(sizes, func(size int) bool { _, none := leastRight(l, n, size); return !none }) < 0 {
			break
		}
		l = m
	}
	for i := range l {
		dropOne(t, l, n, i)
	}
}
