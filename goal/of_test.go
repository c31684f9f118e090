package goal

import (
	"fmt"
	"testing"

	"corral/api"
)

// 9.1, Of

// checkOf holds what Of answers of a jump.
func checkOf(t *testing.T, at int, x api.Ins, want int) {
	t.Helper()
	if got, ok := Of(at, x); !ok || got != want {
		t.Errorf("Of(%d, %v) = %d, %v, want %d", at, x, got, ok, want)
	}
}

// checkNoJump holds that Of answers nothing.
func checkNoJump(t *testing.T, at int, x api.Ins) {
	t.Helper()
	if got, ok := Of(at, x); ok || got != 0 {
		t.Errorf("Of(%d, %v) = %d, %v", at, x, got, ok)
	}
}

// TestOfWritten has goals that are written out: at the beginning, in the middle, and at the last place that code can have.
func TestOfWritten(t *testing.T) {
	for _, c := range []struct {
		at          int
		n           uint32
		byJmp, byJz int
	}{
		{0, 0, 5, 6}, {0, 1, 6, 7}, {0, 1<<31 - 1, 2147483652, 2147483653}, {0, 1 << 31, -2147483643, -2147483642}, {0, top, 4, 5},
		{0, top - 4, 0, 1}, {0, top - 5, -1, 0}, {0, top - 6, -2, -1},
		{2050, 0, 2055, 2056}, {2050, 1, 2056, 2057}, {2050, 1<<31 - 1, 2147485702, 2147485703}, {2050, 1 << 31, -2147481593, -2147481592}, {2050, top, 2054, 2055},
		{2050, top - 4, 2050, 2051}, {2050, top - 5, 2049, 2050}, {2050, top - 2054, 0, 1}, {2050, top - 2055, -1, 0}, {2050, top - 2056, -2, -1},
		{4090, 0, 4095, 4096}, {4090, 1, 4096, 4097}, {4090, 1<<31 - 1, 2147487742, 2147487743}, {4090, 1 << 31, -2147479553, -2147479552}, {4090, top, 4094, 4095},
		{4090, top - 4095, -1, 0}, {4090, top - 5, 4089, 4090},
		{4091, 0, 4096, 4097}, {4091, 1, 4097, 4098}, {4091, 1<<31 - 1, 2147487743, 2147487744}, {4091, 1 << 31, -2147479552, -2147479551}, {4091, top, 4095, 4096},
		{4091, top - 4095, 0, 1}, {4091, top - 4, 4091, 4092},
	} {
		checkOf(t, c.at, api.Ins{Op: api.Jmp, Imm: c.n}, c.byJmp)
		for a := range 8 {
			checkOf(t, c.at, api.Ins{Op: api.Jz, A: a, Imm: c.n}, c.byJz)
		}
	}
}

// TestOfEachPlace has jumps at all places that code can have, by numbers that lead to the beginning, to the jump itself, right behind it, and far away.
func TestOfEachPlace(t *testing.T) {
	for at := range 4096 {
		for _, goal := range []int{0, 1, at - 32, at - 1, at, at + 1, at + 5, at + 6, at + 7, at + 32, 4095, 4096, -1, -4096, 1 << 30, -1 << 30} {
			checkOf(t, at, api.Ins{Op: api.Jmp, Imm: uint32(goal - at - 5)}, goal)
			checkOf(t, at, api.Ins{Op: api.Jz, A: at % 8, Imm: uint32(goal - at - 6)}, goal)
		}
		for _, n := range []uint32{0, 1, 127, 128, 255, 256, 32767, 32768, 65535, 65536, 1<<31 - 1, 1 << 31, 1<<31 + 1, top - 1, top} {
			checkOf(t, at, api.Ins{Op: api.Jmp, Imm: n}, at+5+plainSign(n))
			checkOf(t, at, api.Ins{Op: api.Jz, A: at % 8, Imm: n}, at+6+plainSign(n))
		}
	}
}

// TestOfOutside has places that no code has: goals are sums there, too.
func TestOfOutside(t *testing.T) {
	for _, at := range []int{-1, -5, -6, -32, -4096, -1 << 31, -1 << 40, 4096, 65536, 1<<31 - 1, 1 << 31, 1 << 32, 1 << 40} {
		for _, n := range []uint32{0, 1, 1<<31 - 1, 1 << 31, top - 5, top - 4, top} {
			checkOf(t, at, api.Ins{Op: api.Jmp, Imm: n}, at+5+plainSign(n))
			checkOf(t, at, api.Ins{Op: api.Jz, A: 3, Imm: n}, at+6+plainSign(n))
		}
	}
	for _, at := range []int{-1 << 63, 1<<63 - 1} {
		for _, n := range []uint32{0, 1<<31 - 1, 1 << 31, top} { // beyond all numbers: nothing but an answer is asked for
			Of(at, api.Ins{Op: api.Jmp, Imm: n})
			Of(at, api.Ins{Op: api.Jz, Imm: n})
		}
	}
}

// TestOfOthers has each other operation, and numbers of operations below 0 and beyond the last.
func TestOfOthers(t *testing.T) {
	ops := []int{-1 << 63, -1 << 32, -256 + api.Jmp, -237, -20, -19, -2, -1, 24, 25, 51, 52, 255, 256 + api.Jmp, 256 + api.Jz, 1<<32 + api.Jmp, 1<<32 + api.Jz, 1<<63 - 1}
	for op := range 24 {
		if op != api.Jmp && op != api.Jz {
			ops = append(ops, op)
		}
	}
	for _, op := range ops {
		for _, at := range []int{0, 5, 2050, 4091, 4095, -1, -1 << 63, 1<<63 - 1} {
			for _, n := range []uint32{0, 1, 4, 255, 1<<31 - 1, 1 << 31, top - 4, top} {
				for a := range 8 {
					checkNoJump(t, at, api.Ins{Op: op, A: a, Imm: n})
					checkNoJump(t, at, api.Ins{Op: op, A: a, B: 7 - a, Imm: n})
				}
			}
		}
	}
}

// TestOfNone has what isn't an instruction, though its operation is a jump's: it has no bytes, and no place is behind it.
func TestOfNone(t *testing.T) {
	far := []int{-1 << 63, -1 << 32, -256, -8, -1, 8, 9, 15, 16, 255, 256, 1 << 31, 1 << 32, 1<<63 - 1}
	for _, n := range []uint32{0, 1, 1 << 31, top} {
		for _, r := range far {
			checkNoJump(t, 32, api.Ins{Op: api.Jmp, A: r, Imm: n})
			checkNoJump(t, 32, api.Ins{Op: api.Jmp, B: r, Imm: n})
			checkNoJump(t, 32, api.Ins{Op: api.Jz, A: r, Imm: n})
			checkNoJump(t, 32, api.Ins{Op: api.Jz, A: 3, B: r, Imm: n})
		}
		for r := 1; r < 8; r++ {
			checkNoJump(t, 32, api.Ins{Op: api.Jmp, A: r, Imm: n})
			checkNoJump(t, 32, api.Ins{Op: api.Jmp, B: r, Imm: n})
			checkNoJump(t, 32, api.Ins{Op: api.Jz, A: r, B: r, Imm: n})
			checkNoJump(t, 32, api.Ins{Op: api.Jz, B: r, Imm: n})
		}
	}
}

func ExampleOf() {
	fmt.Println(Of(0, api.Ins{Op: api.Jmp, Imm: 1<<32 - 5}))
	// Output: 0 true
}
