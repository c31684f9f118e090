package gate

import (
	"testing"

	"corral/step"
)

// 12.1, Do of the gate 3

// checkSum holds which number the gate 3 answers of bytes.
func checkSum(t *testing.T, name string, p memory, base, size, at, n, want uint32) {
	t.Helper()
	c := step.Cpu{Pc: 130, R: [8]uint32{at, n, 22, 23, 24, 25, 26, 27}, Base: base, Size: size}
	w := World{Replies: []uint32{5}, Taken: 1, Trace: []Event{{1, 3}}, Code: 4}
	got, after := checkDo(t, name, c, p, w, 3)
	checkEvent(t, c, got, w, after, Event{3, want})
	if want != none && !Owns(c, at, n) {
		t.Errorf("%s: Owns(%v, %d, %d) is false", name, c, at, n)
	}
}

// TestSumKnown has bytes whose sums another program for FNV-1a told.
func TestSumKnown(t *testing.T) {
	for _, x := range []struct {
		text string
		sum  uint32
	}{{"", 0x811c9dc5}, {"a", 0xe40c292c}, {"foobar", 0xbf9cf968}, {"abc", 0x1a47e90b}} {
		p := filled(512)
		copy(p.bytes[200:], x.text)
		checkSum(t, x.text, p, 128, 128, 200, uint32(len(x.text)), x.sum)
	}
}

// TestSumNone sums up no bytes, at the upper half's beginning, in it, right behind it, and outside.
func TestSumNone(t *testing.T) {
	p := filled(512)
	for _, x := range []struct{ at, want uint32 }{
		{192, empty}, {193, empty}, {224, empty}, {255, empty}, {256, empty},
		{191, none}, {257, none}, {128, none}, {0, none}, {512, none}, {1<<32 - 1, none}, {1<<32 - 64, none},
	} {
		checkSum(t, "no bytes", p, 128, 128, x.at, 0, x.want)
	}
	checkSum(t, "no bytes, at the memory's end", p, 384, 128, 512, 0, empty)
	checkSum(t, "no bytes, beyond the memory", p, 384, 130, 513, 0, none)
	checkSum(t, "no bytes, of a region of none", p, 192, 0, 192, 0, empty)
	checkSum(t, "no bytes, of a region of one", p, 192, 1, 192, 0, empty)
	checkSum(t, "no bytes, of a region of none", p, 192, 0, 191, 0, none)
	checkSum(t, "no bytes, of a region of one", p, 192, 1, 193, 0, none)
	checkSum(t, "no bytes, of a region of none at 0", p, 0, 0, 0, 0, empty)
}

// TestSumEdges sums up bytes at the upper half's beginning, up to its end, and beyond.
func TestSumEdges(t *testing.T) {
	p := filled(512)
	for _, x := range []struct{ at, n uint32 }{{192, 1}, {192, 3}, {192, 63}, {192, 64}, {193, 63}, {255, 1}, {224, 32}, {200, 10}} {
		want := p.plainSum(x.at, x.n)
		if want == none {
			t.Fatalf("of %d bytes at %d there is no sum", x.n, x.at)
		}
		checkSum(t, "in the half", p, 128, 128, x.at, x.n, want)
	}
	for _, x := range []struct{ at, n uint32 }{
		{191, 1}, {191, 2}, {191, 65}, {191, 66}, {128, 64}, {128, 128}, {127, 1}, {0, 1}, {0, 512},
		{192, 65}, {192, 128}, {193, 64}, {255, 2}, {256, 1}, {257, 1}, {511, 1}, {224, 33},
		{192, 1<<32 - 1}, {192, 1<<32 - 192}, {192, 1 << 31}, {200, 1<<32 - 8}, {1<<32 - 1, 1}, {1<<32 - 1, 200}, {1<<32 - 64, 300}, {1 << 31, 1},
	} {
		checkSum(t, "not in the half", p, 128, 128, x.at, x.n, none)
	}
}

// TestSumRegions sums up in regions of each size, and of odd ones.
func TestSumRegions(t *testing.T) {
	p := filled(65536)
	for _, x := range regions() {
		half := x.behind - x.from
		if x.behind > 65536 || x.from == 0 {
			continue
		}
		checkSum(t, "the half", p, x.base, x.size, x.from, half, p.plainSum(x.from, half))
		checkSum(t, "more than the half", p, x.base, x.size, x.from, half+1, none)
		checkSum(t, "ahead of the half", p, x.base, x.size, x.from-1, half, none)
		checkSum(t, "behind the half", p, x.base, x.size, x.from+1, half, none)
		checkSum(t, "the end", p, x.base, x.size, x.behind, 0, empty)
	}
	checkSum(t, "all of the memory's upper half", p, 0, 65536, 32768, 32768, p.plainSum(32768, 32768))
	checkSum(t, "all that there is", p, 1<<32-1, 1<<32-1, 0, 65536, none)
}

// TestSumFar has regions that lie beyond the memory, or reach beyond it or beyond 2^32 - 1: what isn't in it can't be read.
func TestSumFar(t *testing.T) {
	p := filled(512)
	for _, x := range []struct{ base, size, at, n uint32 }{
		{384, 256, 512, 1}, {384, 256, 512, 128}, {384, 256, 513, 0}, {448, 128, 512, 64},
		{1 << 31, 128, 1<<31 + 64, 64}, {1 << 31, 128, 1<<31 + 64, 0}, {1<<32 - 128, 128, 1<<32 - 64, 64}, {1<<32 - 128, 128, 1<<32 - 64, 0},
		{1<<32 - 128, 128, 1<<32 - 1, 1}, {1<<32 - 64, 256, 64, 1}, {1<<32 - 64, 256, 64, 0}, {1<<32 - 64, 256, 128, 64}, {1<<32 - 100, 160, 1<<32 - 20, 80},
		{0, 1<<32 - 1, 1<<31 - 1, 1<<31 - 1}, {0, 1<<32 - 1, 1<<31 - 1, 0},
	} {
		checkSum(t, "far", p, x.base, x.size, x.at, x.n, none)
	}
	// Half of it lies ahead of the memory's end.
	checkSum(t, "up to the memory's end", p, 384, 160, 464, 48, p.plainSum(464, 48))
	checkSum(t, "beyond the memory's end", p, 384, 160, 464, 49, none)
	checkSum(t, "of a great region's upper half", p, 0, 1000, 500, 12, p.plainSum(500, 12))
	checkSum(t, "of a great region's upper half", p, 0, 1000, 500, 13, none)
}

// TestSumNotThere has bytes of which none, or not all, are there.
func TestSumNotThere(t *testing.T) {
	p := filled(1024)
	p.zones[7], p.zones[9] = false, false // the upper half's zones are 4 to 7, of the next region's 12 to 15
	clear(p.bytes[448:512])
	clear(p.bytes[576:640])
	for _, x := range []struct{ at, n, want uint32 }{
		{256, 192, p.plainSum(256, 192)}, {447, 1, p.plainSum(447, 1)}, {440, 8, p.plainSum(440, 8)},
		{256, 193, none}, {256, 256, none}, {447, 2, none}, {448, 1, none}, {448, 64, none}, {511, 1, none}, {500, 3, none},
		{448, 0, empty}, {460, 0, empty}, {512, 0, empty},
	} {
		checkSum(t, "not all are there", p, 0, 512, x.at, x.n, x.want)
	}
	for i := range p.zones {
		p.zones[i] = false
	}
	clear(p.bytes)
	for _, x := range []struct{ at, n, want uint32 }{{256, 1, none}, {256, 256, none}, {300, 64, none}, {256, 0, empty}, {512, 0, empty}, {513, 0, none}} {
		checkSum(t, "none is there", p, 0, 512, x.at, x.n, x.want)
	}
}

// TestSumNil has no memory at all.
func TestSumNil(t *testing.T) {
	for _, n := range []uint32{0, 1, 64, 1<<32 - 1} {
		for _, at := range []uint32{0, 192, 200, 256, 1<<32 - 1} {
			checkSum(t, "nil", memory{}, 128, 128, at, n, none)
			checkSum(t, "nil", memory{}, 0, 0, at, n, none)
		}
	}
}

// TestSumAgain sums up twice: the first sum is the second one's place, and is nowhere.
func TestSumAgain(t *testing.T) {
	p := filled(512)
	c := step.Cpu{R: [8]uint32{192, 64}, Base: 128, Size: 128}
	c, w := checkDo(t, "once", c, p, World{}, 3)
	c, w = checkDo(t, "again", c, p, w, 3)
	if c.R[0] != none || len(w.Trace) != 2 || w.Trace[0].V != p.plainSum(192, 64) || w.Trace[1] != (Event{3, none}) {
		t.Errorf("again: %v, %v", c, w)
	}
}
