package rule

import (
	"testing"

	"corral/api"
)

// 8.1, Second

// eachRight answers all right instructions, those with a number with some numbers.
func eachRight() []api.Ins {
	var l []api.Ins
	for op := range 24 {
		for a := range 8 {
			for b := range 8 {
				for _, n := range []uint32{0, 1, 4, 5, 17, 255, 256, 1 << 31, top} {
					x := api.Ins{Op: op, A: a, B: b, Imm: n}
					if plainRight(x) {
						l = append(l, x)
					}
				}
			}
		}
	}
	return l
}

// plainRight tells whether an instruction with registers of 0 to 7 is right, by chapter 2's words.
func plainRight(x api.Ins) bool {
	switch x.Op {
	case api.Halt, api.Nop:
		return x.A == 0 && x.B == 0 && x.Imm == 0
	case api.Movi, api.Jz:
		return x.B == 0
	case api.Jmp:
		return x.A == 0 && x.B == 0
	case api.Gate:
		return x.A == 0 && x.B == 0 && x.Imm < 256
	case api.MaskD, api.MaskC, api.Jr:
		return x.B == 0 && x.Imm == 0
	}
	return x.Imm == 0
}

// TestSecondOfEach has each right instruction behind each: all operations, and all registers, alike and unlike.
func TestSecondOfEach(t *testing.T) {
	l := eachRight()
	var pairs, ops [24][24]int
	for _, a := range l {
		for _, b := range l {
			got := Second(a, b)
			if got != plainPair(a, b) {
				t.Fatalf("Second(%v, %v) = %v", a, b, got)
			}
			if got {
				pairs[a.Op][b.Op]++
			}
			ops[a.Op][b.Op]++
		}
	}
	for a := range 24 {
		for b := range 24 {
			want := 0
			switch {
			case a == api.MaskD && (b == api.Load || b == api.Store):
				want = 64
			case a == api.MaskC && b == api.Jr:
				want = 8
			}
			if ops[a][b] == 0 || pairs[a][b] != want {
				t.Errorf("of %d of the operations %d, %d, %d are pairs, want %d", ops[a][b], a, b, pairs[a][b], want)
			}
		}
	}
}

func TestSecondOfRegisters(t *testing.T) {
	for r := range 8 {
		for s := range 8 {
			alike := r == s
			for other := range 8 {
				if got := Second(api.Ins{Op: api.MaskD, A: r}, api.Ins{Op: api.Load, A: other, B: s}); got != alike {
					t.Errorf("MaskD %d, Load %d %d: %v", r, other, s, got)
				}
				if got := Second(api.Ins{Op: api.MaskD, A: r}, api.Ins{Op: api.Store, A: s, B: other}); got != alike {
					t.Errorf("MaskD %d, Store %d %d: %v", r, s, other, got)
				}
			}
			if got := Second(api.Ins{Op: api.MaskC, A: r}, api.Ins{Op: api.Jr, A: s}); got != alike {
				t.Errorf("MaskC %d, Jr %d: %v", r, s, got)
			}
			if alike {
				continue
			}
			if Second(api.Ins{Op: api.MaskD, A: r}, api.Ins{Op: api.Load, A: r, B: s}) {
				t.Errorf("MaskD %d, Load %d %d is a pair, by its A", r, r, s)
			}
			if Second(api.Ins{Op: api.MaskD, A: r}, api.Ins{Op: api.Store, A: s, B: r}) {
				t.Errorf("MaskD %d, Store %d %d is a pair, by its B", r, s, r)
			}
		}
	}
}

// TestSecondOfOtherKind has masks of the other kind, and a pair's two the other way round.
func TestSecondOfOtherKind(t *testing.T) {
	for r := range 8 {
		d, c := api.Ins{Op: api.MaskD, A: r}, api.Ins{Op: api.MaskC, A: r}
		l, s, j := api.Ins{Op: api.Load, A: r, B: r}, api.Ins{Op: api.Store, A: r, B: r}, api.Ins{Op: api.Jr, A: r}
		for _, x := range [][2]api.Ins{{d, j}, {c, l}, {c, s}, {l, d}, {s, d}, {j, c}, {d, d}, {c, c}, {d, c}, {c, d}, {l, l}, {l, s}, {s, l}, {s, s}, {j, j}} {
			if Second(x[0], x[1]) {
				t.Errorf("Second(%v, %v)", x[0], x[1])
			}
		}
		for _, x := range [][2]api.Ins{{d, l}, {d, s}, {c, j}} {
			if !Second(x[0], x[1]) {
				t.Errorf("not Second(%v, %v)", x[0], x[1])
			}
		}
	}
}

// wrongOf answers what an instruction becomes by an operation or a register that isn't there, or by what its operation hasn't.
func wrongOf(x api.Ins) []api.Ins {
	var l []api.Ins
	for _, by := range []int{-1 << 63, -1 << 32, -256, -24, 24, 32, 256, 1 << 16, 1 << 32} {
		y := x
		y.Op += by
		l = append(l, y)
	}
	for _, r := range []int{-1 << 63, -1 << 32, -257, -8, -1, 8, 9, 15, 16, 17, 255, 256, 1 << 31, 1 << 32, 1<<63 - 1} {
		y, z := x, x
		y.A, z.B = r, r
		l = append(l, y, z)
	}
	for _, n := range []uint32{1, 4, 255, 256, 1 << 31, top} {
		y := x
		y.Imm = n
		l = append(l, y)
	}
	if x.Op != api.Load && x.Op != api.Store {
		for b := 1; b < 8; b++ {
			y := x
			y.B = b
			l = append(l, y)
		}
	}
	return l
}

// TestSecondOfWrong has pairs of which one, or both, are no instructions.
func TestSecondOfWrong(t *testing.T) {
	for _, x := range [][2]api.Ins{
		{{Op: api.MaskD, A: 2}, {Op: api.Load, A: 1, B: 2}}, {{Op: api.MaskD}, {Op: api.Load}}, {{Op: api.MaskD, A: 7}, {Op: api.Load, A: 7, B: 7}},
		{{Op: api.MaskD, A: 2}, {Op: api.Store, A: 2, B: 1}}, {{Op: api.MaskD}, {Op: api.Store}}, {{Op: api.MaskD, A: 7}, {Op: api.Store, A: 7, B: 7}},
		{{Op: api.MaskC, A: 2}, {Op: api.Jr, A: 2}}, {{Op: api.MaskC}, {Op: api.Jr}}, {{Op: api.MaskC, A: 7}, {Op: api.Jr, A: 7}},
	} {
		if !Second(x[0], x[1]) {
			t.Errorf("not Second(%v, %v)", x[0], x[1])
		}
		for _, a := range wrongOf(x[0]) {
			if Second(a, x[1]) {
				t.Errorf("Second(%v, %v)", a, x[1])
			}
			for _, b := range wrongOf(x[1]) {
				if Second(a, b) || Second(x[0], b) {
					t.Errorf("Second(%v or %v, %v)", a, x[0], b)
				}
			}
		}
	}
}

// TestSecondOfWrongAlike has a mask and its second one, both by a register that isn't there.
func TestSecondOfWrongAlike(t *testing.T) {
	for _, r := range []int{-1 << 63, -256, -8, -1, 8, 9, 15, 16, 255, 256, 1 << 32, 1<<63 - 1} {
		for _, x := range [][2]api.Ins{
			{{Op: api.MaskD, A: r}, {Op: api.Load, B: r}}, {{Op: api.MaskD, A: r}, {Op: api.Load, A: r, B: r}},
			{{Op: api.MaskD, A: r}, {Op: api.Store, A: r}}, {{Op: api.MaskD, A: r}, {Op: api.Store, A: r, B: r}}, {{Op: api.MaskC, A: r}, {Op: api.Jr, A: r}},
		} {
			if Second(x[0], x[1]) {
				t.Errorf("Second(%v, %v)", x[0], x[1])
			}
		}
	}
}
