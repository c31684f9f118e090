package goal

import (
	"bytes"
	"slices"
	"testing"

	"corral/api"
)

// This file has the chapters' words written out once more, and what the tests build code of.

const top = 1<<32 - 1

// plainSizes has, by chapter 2's words, how many bytes each operation has.
var plainSizes = [24]int{1, 6, 2, 2, 2, 2, 2, 2, 2, 2, 2, 2, 2, 2, 2, 2, 2, 2, 2, 5, 6, 2, 2, 1}

// plainSign answers a number, read with a sign, by chapter 1's words.
func plainSign(n uint32) int {
	if n >= 1<<31 {
		return int(n) - 1<<32
	}
	return int(n)
}

// plainRead answers the instruction that bytes begin with, and how many they are, by chapter 2's words.
func plainRead(b []byte) (api.Ins, int) {
	if len(b) == 0 || b[0] > 23 || plainSizes[b[0]] > len(b) {
		return api.Ins{}, 0
	}
	four := func(b []byte) uint32 { return uint32(b[0]) + uint32(b[1])<<8 + uint32(b[2])<<16 + uint32(b[3])<<24 }
	x := api.Ins{Op: int(b[0])}
	switch x.Op {
	case 0, 23:
	case 1, 20:
		x.A, x.Imm = int(b[1]), four(b[2:])
	case 19:
		x.Imm = four(b[1:])
	case 22:
		x.Imm = uint32(b[1])
	default:
		x.A, x.B = int(b[1])/16, int(b[1])%16
		if x.B > 0 && (x.Op == 17 || x.Op == 18 || x.Op == 21) {
			return api.Ins{}, 0
		}
	}
	if x.A > 7 || x.B > 7 {
		return api.Ins{}, 0
	}
	return x, plainSizes[x.Op]
}

// plainScan answers where code's instructions begin, and themselves, by chapter 7's words.
func plainScan(code []byte) (starts []int, l []api.Ins, e api.Errno) {
	if len(code) < 32 || len(code) > 4096 || len(code)%32 != 0 {
		return nil, nil, 4
	}
	for at := 0; at < len(code); {
		x, n := plainRead(code[at:])
		if n == 0 || at/32 != (at+n-1)/32 {
			return nil, nil, 2
		}
		starts, l = append(starts, at), append(l, x)
		at += n
	}
	return starts, l, 0
}

// plainPair tells whether two right instructions are a pair, by chapter 8's words.
func plainPair(a, b api.Ins) bool {
	return a.Op == 17 && b.Op == 15 && b.B == a.A || a.Op == 17 && b.Op == 16 && b.A == a.A || a.Op == 18 && b.Op == 21 && b.A == a.A
}

// plainLook answers all jumps' goals, and May's error, by the chapters' words. Beside ErrGoal the goals are told, too.
func plainLook(code []byte) ([]int, api.Errno) {
	starts, l, e := plainScan(code)
	if e != 0 {
		return nil, e
	}
	var goals []int
	var may [4096]bool
	for i, x := range l {
		at := starts[i]
		second := i > 0 && starts[i-1]/32 == at/32 && plainPair(l[i-1], x)
		if (x.Op == 15 || x.Op == 16 || x.Op == 21) && !second || x.Op == 22 && x.Imm > 4 {
			return nil, 5
		}
		may[at] = !second
		if x.Op == 19 || x.Op == 20 {
			goals = append(goals, at+plainSizes[x.Op]+plainSign(x.Imm))
		}
	}
	for _, goal := range goals {
		if goal < 0 || goal >= len(code) || !may[goal] {
			return goals, 6
		}
	}
	return goals, 0
}

// row answers n bytes that follow each other by a rule, so that each run of the tests has the same.
func row(n int, seed uint32) []byte {
	b := make([]byte, n)
	for i := range b {
		seed = seed*1664525 + 1013904223
		b[i] = byte(seed >> 24)
	}
	return b
}

// nops answers the bytes of n Nops.
func nops(n int) []byte { return bytes.Repeat([]byte{23}, n) }

// joined answers rows of bytes, one behind the other.
func joined(rows ...[]byte) []byte { return slices.Concat(rows...) }

// Bytes of instructions.
func load(a, b int) []byte  { return []byte{15, byte(16*a + b)} }
func store(a, b int) []byte { return []byte{16, byte(16*a + b)} }
func maskD(a int) []byte    { return []byte{17, byte(16 * a)} }
func maskC(a int) []byte    { return []byte{18, byte(16 * a)} }
func jr(a int) []byte       { return []byte{21, byte(16 * a)} }
func gate(n int) []byte     { return []byte{22, byte(n)} }

// four answers a number's rest by 2^32 as four bytes.
func four(n int) []byte { return []byte{byte(n), byte(n >> 8), byte(n >> 16), byte(n >> 24)} }

func movi(a, n int) []byte { return joined([]byte{1, byte(a)}, four(n)) }
func jmp(n int) []byte     { return joined([]byte{19}, four(n)) }
func jz(a, n int) []byte   { return joined([]byte{20, byte(a)}, four(n)) }

// jumpTo answers a jump that begins at a place, to a goal: a Jmp, or a Jz by register a, if it is 0 or more.
func jumpTo(a, at, goal int) []byte {
	if a < 0 {
		return jmp(goal - at - 5)
	}
	return jz(a, goal-at-6)
}

// bundle answers a bundle that has bytes at a place of it, and Nops around.
func bundle(at int, b []byte) []byte { return joined(nops(at), b, nops(32-at-len(b))) }

// put answers a copy of code with bytes at a place of it.
func put(code []byte, at int, b []byte) []byte {
	code = bytes.Clone(code)
	copy(code[at:at+len(b)], b)
	return code
}

// checkSame holds what Goals and May answer against the plain way.
func checkSame(t *testing.T, name string, code []byte) api.Errno {
	t.Helper()
	goals, e := plainLook(code)
	if e == 0 || e == 6 {
		checkGoals(t, name, code, e, goals...)
	} else {
		checkError(t, name, code, e)
	}
	return e
}

// checkGoals holds that May answers an error, or OK, and that Goals answers just those goals all the same.
func checkGoals(t *testing.T, name string, code []byte, want api.Errno, goals ...int) {
	t.Helper()
	if e := May(code); e != want {
		t.Errorf("%s: May of %d bytes with the goals %v = %d, want %d", name, len(code), goals, e, want)
	}
	if got, e := Goals(code); e != 0 || !slices.Equal(got, goals) {
		t.Errorf("%s: Goals of %d bytes = %v, %d, want %v", name, len(code), got, e, goals)
	}
}

// checkError holds that Goals and May answer an error, and nothing beside it.
func checkError(t *testing.T, name string, code []byte, want api.Errno) {
	t.Helper()
	if e := May(code); e != want {
		t.Errorf("%s: May of %d bytes = %d, want %d", name, len(code), e, want)
	}
	if got, e := Goals(code); e != want || len(got) != 0 {
		t.Errorf("%s: Goals of %d bytes = %v, %d, want %d", name, len(code), got, e, want)
	}
}
