package fnv

import (
	"bytes"
	"slices"
	"strings"
	"testing"
)

const top = 1<<32 - 1

// numbers are sums at which something turns, and others from all over, always the same ones.
func numbers() []uint32 {
	l := []uint32{0, 1, 127, 128, 255, 256, 65535, 65536, 1<<24 - 1, 1 << 24, 1<<31 - 1, 1 << 31, 1<<31 + 1, 0x01020304, 0xfffefdfc, 0x80818283, 0xff000000, 0x00ff00ff, 2166136261, 16777619, top - 1, top}
	x := uint32(5)
	for range 200 {
		x = x*1664525 + 1013904223
		l = append(l, x)
	}
	return l
}

// row answers n bytes that follow each other by a rule, so that each run of the tests has the same.
func row(n int, seed uint32) []byte {
	b := make([]byte, n)
	for i := range b {
		seed = seed*1664525 + 1013904223
		b[i] = byte(seed >> 24)
	}
	return b
}

// texts are of all kinds and lengths.
func texts() [][]byte {
	l := [][]byte{nil, {}, {0}, {255}, {0, 0}, {255, 255}, {128}, {127, 128}, []byte("a"), []byte("b"), []byte("foo"), []byte("bar"), []byte("foobar"), bytes.Repeat([]byte{0}, 500), bytes.Repeat([]byte{255}, 500)}
	for _, n := range []int{1, 2, 3, 4, 5, 7, 8, 9, 31, 32, 33, 255, 256, 257, 4096, 65537} {
		l = append(l, row(n, uint32(n)))
	}
	return l
}

// madeOne makes two numbers one, bit by bit.
func madeOne(a, b uint64) uint64 {
	var out uint64
	for bit := uint64(1); bit < 1<<32; bit *= 2 {
		if a/bit%2 != b/bit%2 {
			out += bit
		}
	}
	return out
}

// plain goes on with a sum by the chapter's words.
func plain(h uint32, b []byte) uint32 {
	wide := uint64(h)
	for _, x := range b {
		wide = madeOne(wide, uint64(x)) * 16777619 % (1 << 32)
	}
	return uint32(wide)
}

// joined answers two texts, one behind the other, in memory of its own.
func joined(b, d []byte) []byte { return append(append([]byte{}, b...), d...) }

// 5.1

// TestSumsKnown holds sums against those that other programs for FNV-1a of 32 bits have told.
func TestSumsKnown(t *testing.T) {
	for _, x := range []struct {
		text string
		want uint32
	}{
		{"", 0x811c9dc5}, {"a", 0xe40c292c}, {"b", 0xe70c2de5}, {"c", 0xe60c2c52}, {"\x00", 0x050c5d1f}, {"\xff", 0x7a0b824e},
		{"\x00\x00\x00\x00", 0x4b95f515}, {"foo", 0xa9f37ed7}, {"foobar", 0xbf9cf968}, {"hello", 0x4f9f2cab},
		{strings.Repeat("\x00", 1000), 0x31e4eae5}, {strings.Repeat("\xff", 1000), 0xda53a9fd}, {strings.Repeat("0123456789", 10000), 0x08c08b05},
	} {
		if got := Sum([]byte(x.text)); got != x.want {
			t.Errorf("Sum of %d bytes, %.12q = %#x, want %#x", len(x.text), x.text, got, x.want)
		}
	}
}

func TestSumOfNoBytes(t *testing.T) {
	if a, b := Sum(nil), Sum([]byte{}); a != 2166136261 || b != 2166136261 {
		t.Errorf("Sum(nil) = %d, Sum of no bytes = %d", a, b)
	}
}

func TestSumOfOneByte(t *testing.T) {
	for x := range 256 {
		b := []byte{byte(x)}
		if got, want := Sum(b), plain(2166136261, b); got != want {
			t.Errorf("Sum of a byte of %d = %#x, want %#x", x, got, want)
		}
	}
}

func TestSum(t *testing.T) {
	for _, b := range texts() {
		if got, want := Sum(b), plain(2166136261, b); got != want {
			t.Errorf("Sum of %d bytes = %#x, want %#x", len(b), got, want)
		}
	}
}

func TestSumOfLongText(t *testing.T) {
	b := row(1<<20+3, 1)
	if got, want := Sum(b), plain(2166136261, b); got != want {
		t.Errorf("Sum of %d bytes = %#x, want %#x", len(b), got, want)
	}
}

func TestMoreOfASum(t *testing.T) {
	for _, b := range texts() {
		for _, d := range texts() {
			if got, want := More(Sum(b), d), Sum(joined(b, d)); got != want {
				t.Errorf("More(Sum of %d bytes, %d bytes) = %#x, want %#x", len(b), len(d), got, want)
			}
		}
	}
}

func TestMoreInPieces(t *testing.T) {
	b := row(300, 9)
	for _, by := range []int{1, 2, 3, 7, 64, 299, 300, 301} {
		h := Sum(nil)
		for piece := range slices.Chunk(b, by) {
			h = More(h, piece)
		}
		if h != Sum(b) {
			t.Errorf("in pieces of %d bytes: %#x, want %#x", by, h, Sum(b))
		}
	}
}

func TestMoreOfAnyNumber(t *testing.T) {
	for _, h := range numbers() {
		for _, b := range [][]byte{{0}, {255}, {byte(h)}, []byte("a"), row(40, h)} {
			if got, want := More(h, b), plain(h, b); got != want {
				t.Errorf("More(%#x, %v) = %#x, want %#x", h, b, got, want)
			}
		}
	}
}

func TestMoreOfNoBytes(t *testing.T) {
	for _, h := range numbers() {
		if a, b := More(h, nil), More(h, []byte{}); a != h || b != h {
			t.Errorf("More(%#x) of nil, and of no bytes = %#x, %#x", h, a, b)
		}
	}
}

// TestBytesStay holds that what is handed in stays, what lies behind it in its spare room too, and doesn't reach the sum.
func TestBytesStay(t *testing.T) {
	all := row(64, 3)
	want := bytes.Clone(all)
	b := all[8:40]
	sum, more := Sum(b), More(7, b)
	if !bytes.Equal(all, want) {
		t.Errorf("the bytes are %v, were %v", all, want)
	}
	clear(all[:8])
	clear(all[40:])
	if Sum(b) != sum || More(7, b) != more {
		t.Errorf("sums of the same bytes: %#x then %#x, %#x then %#x", sum, Sum(b), more, More(7, b))
	}
	if short := slices.Clip(b); Sum(short) != sum || More(7, short) != more {
		t.Errorf("without spare room: %#x, %#x, with it %#x, %#x", Sum(short), More(7, short), sum, more)
	}
}

// 5.2

func TestFour(t *testing.T) {
	for _, x := range []struct {
		h    uint32
		want string
	}{
		{0, "\x00\x00\x00\x00"}, {1, "\x01\x00\x00\x00"}, {255, "\xff\x00\x00\x00"}, {256, "\x00\x01\x00\x00"}, {65536, "\x00\x00\x01\x00"}, {1 << 24, "\x00\x00\x00\x01"},
		{0x01020304, "\x04\x03\x02\x01"}, {0x64636261, "abcd"}, {0x80818283, "\x83\x82\x81\x80"}, {1<<31 - 1, "\xff\xff\xff\x7f"}, {1 << 31, "\x00\x00\x00\x80"}, {0xe40c292c, "\x2c\x29\x0c\xe4"}, {top - 1, "\xfe\xff\xff\xff"}, {top, "\xff\xff\xff\xff"},
	} {
		if got := Four(x.h); got != x.want {
			t.Errorf("Four(%#x) = %q, want %q", x.h, got, x.want)
		}
	}
}

func TestNumber(t *testing.T) {
	for _, x := range []struct {
		text string
		want uint32
	}{
		{"\x00\x00\x00\x00", 0}, {"\x01\x00\x00\x00", 1}, {"\x00\x00\x00\x01", 1 << 24}, {"\x04\x03\x02\x01", 0x01020304}, {"abcd", 0x64636261}, {"0000", 0x30303030}, {"\x00\x00\x00\x80", 1 << 31}, {"\x83\x82\x81\x80", 0x80818283}, {"\xff\xff\xff\xff", top},
		{"\xc3\xa4\xc3\xb6", 0xb6c3a4c3}, // two letters of two bytes each: bytes count
	} {
		if got, ok := Number(x.text); got != x.want || !ok {
			t.Errorf("Number(%q) = %#x, %v, want %#x", x.text, got, ok, x.want)
		}
	}
}

func TestNumberOfWhatFourAnswers(t *testing.T) {
	for _, h := range numbers() {
		s := Four(h)
		if got, ok := Number(s); got != h || !ok || len(s) != 4 {
			t.Errorf("Number(Four(%#x)) = %#x, %v, of %q", h, got, ok, s)
		}
	}
}

func TestFourOfNumbers(t *testing.T) {
	for _, h := range numbers() {
		s := string(row(4, h))
		if n, ok := Number(s); !ok || Four(n) != s {
			t.Errorf("Four(Number(%q)) = %q, %v", s, Four(n), ok)
		}
	}
}

func TestNumberOfOtherLengths(t *testing.T) {
	for _, s := range []string{"", "a", "ab", "abc", "abcde", "abcdefgh", "\x00", "\x00\x00\x00", "\x00\x00\x00\x00\x00", "\xff\xff\xff", "\xff\xff\xff\xff\xff", "\xc3\xa4\xc3\xb6\xc3\xbc\xc3\x9f", strings.Repeat("a", 256), strings.Repeat("a", 260), strings.Repeat("a", 65540)} {
		if got, ok := Number(s); got != 0 || ok {
			t.Errorf("Number of %d bytes, %.12q = %#x, %v", len(s), s, got, ok)
		}
	}
}

// 5.3

// checkUnlike holds that texts that are unlike in the byte at a place alone have unlike sums, whatever stands there, and whatever the sum ahead is.
func checkUnlike(t *testing.T, text []byte, at int) {
	t.Helper()
	b := bytes.Clone(text)
	for _, h := range []uint32{2166136261, 0, 1 << 31, top} {
		seen := map[uint32]int{}
		for x := range 256 {
			b[at] = byte(x)
			sum := More(h, b)
			if h == 2166136261 && Sum(b) != sum {
				t.Fatalf("Sum of %d bytes = %#x, More = %#x", len(b), Sum(b), sum)
			}
			if other, ok := seen[sum]; ok {
				t.Fatalf("%d bytes with %d and with %d at %d, from %#x on: both %#x", len(b), other, x, at, h, sum)
			}
			seen[sum] = x
		}
	}
}

func TestUnlikeInOneByte(t *testing.T) {
	for _, n := range []int{1, 2, 3, 4, 5, 16, 33, 100, 1000} {
		for _, text := range [][]byte{make([]byte, n), bytes.Repeat([]byte{255}, n), row(n, 77)} {
			for _, at := range []int{0, n / 3, n / 2, n - 1} {
				checkUnlike(t, text, at)
			}
		}
	}
}

// TestUnlikeAtEachPlace changes each byte of a text, one bit at a time: none of those texts has its sum.
func TestUnlikeAtEachPlace(t *testing.T) {
	b := row(400, 12)
	sum := Sum(b)
	for at := range b {
		for bit := range 8 {
			b[at] ^= 1 << bit
			if Sum(b) == sum {
				t.Errorf("another bit %d at %d: the same sum %#x", bit, at, sum)
			}
			b[at] ^= 1 << bit
		}
	}
}
