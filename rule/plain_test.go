package rule

import (
	"bytes"
	"slices"
	"testing"

	"corral/api"
)

// This file has the chapters' words written out once more, and what the tests build code of.

const top = 1<<32 - 1

// plainSizes has, by chapter 2's words, how many bytes each operation has.
var plainSizes = [24]int{1, 6, 2, 2, 2, 2, 2, 2, 2, 2, 2, 2, 2, 2, 2, 2, 2, 2, 2, 5, 6, 2, 2, 1}

// plainRead answers the instruction that bytes begin with, and how many they are, by chapter 2's words.
func plainRead(b []byte) (api.Ins, int) {
	if len(b) == 0 || b[0] > 23 || plainSizes[b[0]] > len(b) {
		return api.Ins{}, 0
	}
	four := func(b []byte) uint32 { return uint32(b[0]) + uint32(b[1])<<8 + uint32(b[2])<<16 + uint32(b[3])<<24 }
	x := api.Ins{Op: int(b[0])}
	switch x.Op {
	case 0, 23:
	case 1, 20:
		x.A, x.Imm = int(b[1]), four(b[2:])
	case 19:
		x.Imm = four(b[1:])
	case 22:
		x.Imm = uint32(b[1])
	default:
		x.A, x.B = int(b[1])/16, int(b[1])%16
		if x.B > 0 && (x.Op == 17 || x.Op == 18 || x.Op == 21) {
			return api.Ins{}, 0
		}
	}
	if x.A > 7 || x.B > 7 {
		return api.Ins{}, 0
	}
	return x, plainSizes[x.Op]
}

// plainScan answers where code's instructions begin, and themselves, by chapter 7's words.
func plainScan(code []byte) (starts []int, l []api.Ins, e api.Errno) {
	if len(code) < 32 || len(code) > 4096 || len(code)%32 != 0 {
		return nil, nil, 4
	}
	for at := 0; at < len(code); {
		x, n := plainRead(code[at:])
		if n == 0 || at/32 != (at+n-1)/32 {
			return nil, nil, 2
		}
		starts, l = append(starts, at), append(l, x)
		at += n
	}
	return starts, l, 0
}

// plainPair tells whether two right instructions are a pair, by the chapter's words.
func plainPair(a, b api.Ins) bool {
	return a.Op == 17 && b.Op == 15 && b.B == a.A || a.Op == 17 && b.Op == 16 && b.A == a.A || a.Op == 18 && b.Op == 21 && b.A == a.A
}

// plainSeconds answers where the second ones of pairs begin, by the chapter's words.
func plainSeconds(code []byte) (map[int]bool, api.Errno) {
	starts, l, e := plainScan(code)
	if e != 0 {
		return nil, e
	}
	seconds := map[int]bool{}
	for i, x := range l {
		if i > 0 && starts[i-1]/32 == starts[i]/32 && plainPair(l[i-1], x) {
			seconds[starts[i]] = true
		}
		if (x.Op == 15 || x.Op == 16 || x.Op == 21) && !seconds[starts[i]] || x.Op == 22 && x.Imm > 4 {
			return nil, 5
		}
	}
	return seconds, 0
}

// row answers n bytes that follow each other by a rule, so that each run of the tests has the same.
func row(n int, seed uint32) []byte {
	b := make([]byte, n)
	for i := range b {
		seed = seed*1664525 + 1013904223
		b[i] = byte(seed >> 24)
	}
	return b
}

// nops answers the bytes of n Nops.
func nops(n int) []byte { return bytes.Repeat([]byte{23}, n) }

// joined answers rows of bytes, one behind the other.
func joined(rows ...[]byte) []byte { return slices.Concat(rows...) }

// Bytes of instructions.
func load(a, b int) []byte  { return []byte{15, byte(16*a + b)} }
func store(a, b int) []byte { return []byte{16, byte(16*a + b)} }
func maskD(a int) []byte    { return []byte{17, byte(16 * a)} }
func maskC(a int) []byte    { return []byte{18, byte(16 * a)} }
func jr(a int) []byte       { return []byte{21, byte(16 * a)} }
func gate(n int) []byte     { return []byte{22, byte(n)} }

// halts answers the bytes of n Halts.
func halts(n int) []byte { return make([]byte, n) }

// movi answers a Movi's bytes, the last four of them as they are given.
func movi(a int, number ...byte) []byte { return append([]byte{1, byte(a)}, number...) }

// bundle answers a bundle that has bytes at a place of it, and Nops around.
func bundle(at int, b []byte) []byte { return joined(nops(at), b, nops(32-at-len(b))) }

// among answers code that has a bundle among others: with one of a pair and a Gate ahead, and ones of Nops behind.
func among(ahead int, b []byte, behind int) []byte {
	other := bundle(3, joined(maskD(6), load(1, 6), gate(4)))
	return joined(bytes.Repeat(other, ahead), b, nops(32*behind))
}

// arounds are numbers of bundles ahead and behind: the only bundle, the first, one between, the last.
var arounds = [][2]int{{0, 0}, {0, 1}, {1, 1}, {1, 0}, {3, 4}, {0, 127}, {64, 63}, {127, 0}}

// checkSame holds what Keeps and Seconds answer against the plain way.
func checkSame(t *testing.T, name string, code []byte) {
	t.Helper()
	want, e := plainSeconds(code)
	if e != 0 {
		checkError(t, name, code, e)
		return
	}
	places := make([]int, 0, len(want))
	for at := range want {
		places = append(places, at)
	}
	slices.Sort(places)
	checkKeeps(t, name, code, places...)
}

// checkKeeps holds that code keeps the rules, and that the second ones of pairs begin at just those places.
func checkKeeps(t *testing.T, name string, code []byte, places ...int) {
	t.Helper()
	if e := Keeps(code); e != 0 {
		t.Errorf("%s: Keeps of %d bytes = %d", name, len(code), e)
	}
	got, e := Seconds(code)
	if e != 0 {
		t.Errorf("%s: Seconds of %d bytes = %v, %d", name, len(code), got, e)
		return
	}
	if !holdsJust(got, places) {
		t.Errorf("%s: Seconds of %d bytes = %v, want %v", name, len(code), got, places)
	}
}

// holdsJust tells whether each place is true in a map, and nothing else is in it.
func holdsJust(got map[int]bool, places []int) bool {
	for _, at := range places {
		if !got[at] {
			return false
		}
	}
	return len(got) == len(places)
}

// checkError holds that Keeps and Seconds answer an error, and nothing beside it.
func checkError(t *testing.T, name string, code []byte, want api.Errno) {
	t.Helper()
	if e := Keeps(code); e != want {
		t.Errorf("%s: Keeps of %d bytes = %d, want %d", name, len(code), e, want)
	}
	if got, e := Seconds(code); e != want || len(got) != 0 {
		t.Errorf("%s: Seconds of %d bytes = %v, %d, want %d", name, len(code), got, e, want)
	}
}
