package gate

import (
	"math"
	"strings"
	"testing"
)

// 12.2

// TestTextNone has no events.
func TestTextNone(t *testing.T) {
	for _, l := range [][]Event{nil, {}, make([]Event, 0, 5)} {
		if s := Text(l); s != "" {
			t.Errorf("Text(%v) = %q", l, s)
		}
	}
}

// TestTextGates has each gate's digit, and a ? for those that have none.
func TestTextGates(t *testing.T) {
	for i, want := range []string{"0 7\n", "1 7\n", "2 7\n", "3 7\n", "4 7\n", "5 7\n", "6 7\n", "7 7\n", "8 7\n", "9 7\n"} {
		if s := Text([]Event{{i, 7}}); s != want {
			t.Errorf("Text of gate %d = %q", i, s)
		}
	}
	for _, n := range []int{10, 11, 15, 99, 100, 256, 1 << 31, 1 << 32, 1<<32 + 3, 1 << 62, math.MaxInt - 1, math.MaxInt, -1, -2, -9, -10, -247, -1 << 31, -1 << 32, math.MinInt + 5, math.MinInt} {
		if s := Text([]Event{{n, 7}}); s != "? 7\n" {
			t.Errorf("Text of gate %d = %q", n, s)
		}
	}
}

// TestTextNumbers has numbers, which are read with a sign.
func TestTextNumbers(t *testing.T) {
	for _, x := range []struct {
		v    uint32
		want string
	}{
		{0, "0"}, {1, "1"}, {9, "9"}, {10, "10"}, {4096, "4096"}, {1<<31 - 1, "2147483647"}, {1 << 31, "-2147483648"}, {1<<31 + 1, "-2147483647"}, {1<<32 - 10, "-10"}, {1<<32 - 1, "-1"},
	} {
		if s := Text([]Event{{1, x.v}}); s != "1 "+x.want+"\n" {
			t.Errorf("Text of %d = %q", x.v, s)
		}
		if s := Text([]Event{{-1, x.v}}); s != "? "+x.want+"\n" {
			t.Errorf("Text of %d = %q", x.v, s)
		}
	}
}

// TestTextMany has many events: each has a line, in their order.
func TestTextMany(t *testing.T) {
	l := []Event{{2, 5}, {2, 0}, {1, 1 << 31}, {10, 3}, {2, 5}, {0, 1<<32 - 1}, {9, 0}}
	if s := Text(l); s != "2 5\n2 0\n1 -2147483648\n? 3\n2 5\n0 -1\n9 0\n" {
		t.Errorf("Text(%v) = %q", l, s)
	}
	if s := Text(l[:3]); s != "2 5\n2 0\n1 -2147483648\n" { // what lies in the spare room isn't told
		t.Errorf("Text(%v) = %q", l[:3], s)
	}
	if s := Text(make([]Event, 50000)); s != strings.Repeat("0 0\n", 50000) {
		t.Errorf("Text of 50000 events has %d bytes", len(s))
	}
}

// TestTextDrawn has drawn events, and that they aren't changed.
func TestTextDrawn(t *testing.T) {
	var d draws = 122
	for range 2000 {
		l := make([]Event, d.below(12))
		for i := range l {
			l[i] = Event{d.below(14) - 2, d.number()}
		}
		before := append([]Event{}, l...)
		if got, want := Text(l), plainText(l); got != want {
			t.Errorf("Text(%v) = %q, want %q", l, got, want)
		}
		for i := range l {
			if l[i] != before[i] {
				t.Errorf("Text changed %v to %v", before, l)
			}
		}
	}
}
