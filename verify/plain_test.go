package verify

import (
	"bytes"
	"slices"
	"testing"

	"corral/api"
	"corral/image"
)

// This file has the chapters' words written out once more, and what the tests build code and images of.

const top = 1<<32 - 1

// regions are the sizes that a region may have.
var regions = []int{128, 256, 512, 1024, 2048, 4096, 8192, 16384}

// plainSizes has, by chapter 2's words, how many bytes each operation has.
var plainSizes = [24]int{1, 6, 2, 2, 2, 2, 2, 2, 2, 2, 2, 2, 2, 2, 2, 2, 2, 2, 2, 5, 6, 2, 2, 1}

// plainSign answers a number, read with a sign, by chapter 1's words.
func plainSign(n uint32) int {
	if n >= 1<<31 {
		return int(n) - 1<<32
	}
	return int(n)
}

// plainRead answers the instruction that bytes begin with, and how many they are, by chapter 2's words.
func plainRead(b []byte) (api.Ins, int) {
	if len(b) == 0 || b[0] > 23 || plainSizes[b[0]] > len(b) {
		return api.Ins{}, 0
	}
	four := func(b []byte) uint32 { return uint32(b[0]) + uint32(b[1])<<8 + uint32(b[2])<<16 + uint32(b[3])<<24 }
	x := api.Ins{Op: int(b[0])}
	switch x.Op {
	case 0, 23:
	case 1, 20:
		x.A, x.Imm = int(b[1]), four(b[2:])
	case 19:
		x.Imm = four(b[1:])
	case 22:
		x.Imm = uint32(b[1])
	default:
		x.A, x.B = int(b[1])/16, int(b[1])%16
		if x.B > 0 && (x.Op == 17 || x.Op == 18 || x.Op == 21) {
			return api.Ins{}, 0
		}
	}
	if x.A > 7 || x.B > 7 {
		return api.Ins{}, 0
	}
	return x, plainSizes[x.Op]
}

// plainScan answers where code's instructions begin, and themselves, by chapter 7's words.
func plainScan(code []byte) (starts []int, l []api.Ins, e api.Errno) {
	if len(code) < 32 || len(code) > 4096 || len(code)%32 != 0 {
		return nil, nil, 4
	}
	for at := 0; at < len(code); {
		x, n := plainRead(code[at:])
		if n == 0 || at/32 != (at+n-1)/32 {
			return nil, nil, 2
		}
		starts, l = append(starts, at), append(l, x)
		at += n
	}
	return starts, l, 0
}

// plainPair tells whether two right instructions are a pair, by chapter 8's words.
func plainPair(a, b api.Ins) bool {
	return a.Op == 17 && b.Op == 15 && b.B == a.A || a.Op == 17 && b.Op == 16 && b.A == a.A || a.Op == 18 && b.Op == 21 && b.A == a.A
}

// plainCode answers Code's error, by the chapters' words.
func plainCode(code []byte) api.Errno {
	starts, l, e := plainScan(code)
	if e != 0 {
		return e
	}
	var may [4096]bool
	for i, x := range l {
		second := i > 0 && starts[i-1]/32 == starts[i]/32 && plainPair(l[i-1], x)
		if (x.Op == 15 || x.Op == 16 || x.Op == 21) && !second || x.Op == 22 && x.Imm > 4 {
			return 5
		}
		may[starts[i]] = !second
	}
	for i, x := range l {
		if x.Op != 19 && x.Op != 20 {
			continue
		}
		if goal := starts[i] + plainSizes[x.Op] + plainSign(x.Imm); goal < 0 || goal >= len(code) || !may[goal] {
			return 6
		}
	}
	if len(code) > 4064 {
		return 4
	}
	return 0
}

// plainSum answers the sum FNV-1a as four bytes, by chapter 5's words.
func plainSum(b []byte) []byte {
	h := 2166136261
	for _, x := range b {
		h = (h ^ int(x)) * 16777619 % (1 << 32)
	}
	return four(h)
}

// laid answers the bytes of an image of code and data, by chapter 6's words, whether it may be or not.
func laid(code, data []byte) []byte {
	return summed(joined([]byte("V321"), length2(len(code)), length2(len(data)), code, data))
}

// summed answers bytes with their sum behind them.
func summed(b []byte) []byte { return joined(b, plainSum(b)) }

// length2 answers a length as two bytes.
func length2(n int) []byte { return []byte{byte(n), byte(n >> 8)} }

// row answers n bytes that follow each other by a rule, so that each run of the tests has the same.
func row(n int, seed uint32) []byte {
	b := make([]byte, n)
	for i := range b {
		seed = seed*1664525 + 1013904223
		b[i] = byte(seed >> 24)
	}
	return b
}

// nops answers the bytes of n Nops.
func nops(n int) []byte { return bytes.Repeat([]byte{23}, n) }

// halts answers the bytes of n Halts.
func halts(n int) []byte { return make([]byte, n) }

// joined answers rows of bytes, one behind the other.
func joined(rows ...[]byte) []byte { return slices.Concat(rows...) }

// Bytes of instructions.
func load(a, b int) []byte  { return []byte{15, byte(16*a + b)} }
func store(a, b int) []byte { return []byte{16, byte(16*a + b)} }
func maskD(a int) []byte    { return []byte{17, byte(16 * a)} }
func maskC(a int) []byte    { return []byte{18, byte(16 * a)} }
func jr(a int) []byte       { return []byte{21, byte(16 * a)} }
func gate(n int) []byte     { return []byte{22, byte(n)} }

// Bytes of pairs: a number's Load into a, or Store out of b, and a jump.
func loads(a, b int) []byte  { return joined(maskD(b), load(a, b)) }
func stores(a, b int) []byte { return joined(maskD(a), store(a, b)) }
func jumps(a int) []byte     { return joined(maskC(a), jr(a)) }

// four answers a number's rest by 2^32 as four bytes.
func four(n int) []byte { return []byte{byte(n), byte(n >> 8), byte(n >> 16), byte(n >> 24)} }

func movi(a, n int) []byte { return joined([]byte{1, byte(a)}, four(n)) }
func jmp(n int) []byte     { return joined([]byte{19}, four(n)) }
func jz(a, n int) []byte   { return joined([]byte{20, byte(a)}, four(n)) }

// jumpTo answers a jump that begins at a place, to a goal: a Jmp, or a Jz by register a, if it is 0 or more.
func jumpTo(a, at, goal int) []byte {
	if a < 0 {
		return jmp(goal - at - 5)
	}
	return jz(a, goal-at-6)
}

// bundle answers a bundle that has bytes at a place of it, and Nops around.
func bundle(at int, b []byte) []byte { return joined(nops(at), b, nops(32-at-len(b))) }

// put answers a copy of code with bytes at a place of it.
func put(code []byte, at int, b []byte) []byte {
	code = bytes.Clone(code)
	copy(code[at:at+len(b)], b)
	return code
}

// checkCode holds that Code answers an error, or OK, and that the chapters' words say so, too.
func checkCode(t *testing.T, name string, code []byte, want api.Errno) {
	t.Helper()
	if e := Code(code); e != want {
		t.Errorf("%s: Code of %d bytes = %d, want %d", name, len(code), e, want)
	}
	if e := plainCode(code); e != want {
		t.Errorf("%s: by the chapters' words, Code of %d bytes is %d, not %d", name, len(code), e, want)
	}
}

// checkImage holds that Image answers such code and data of bytes.
func checkImage(t *testing.T, name string, b, code, data []byte) {
	t.Helper()
	if x, e := Image(b); e != 0 || !bytes.Equal(x.Code, code) || !bytes.Equal(x.Data, data) {
		t.Errorf("%s: Image of %d bytes = %d bytes of code, %d of data, %d, want %d, %d, 0", name, len(b), len(x.Code), len(x.Data), e, len(code), len(data))
	}
}

// checkNoImage holds that Image answers an error, and nothing beside it.
func checkNoImage(t *testing.T, name string, b []byte, want api.Errno) {
	t.Helper()
	x, e := Image(b)
	if e != want {
		t.Errorf("%s: Image of %d bytes = %d, want %d", name, len(b), e, want)
	}
	checkEmpty(t, name, x)
}

// checkEmpty holds that an image has nothing.
func checkEmpty(t *testing.T, name string, x image.Image) {
	t.Helper()
	if len(x.Code) > 0 || len(x.Data) > 0 {
		t.Errorf("%s: beside an error there are %d bytes of code and %d of data", name, len(x.Code), len(x.Data))
	}
}
