package word

import (
	"math"
	"math/big"
	"strconv"
	"testing"

	"corral/api"
)

const top = 1<<32 - 1 // -1, read with a sign

// edges are numbers at which something turns.
func edges() []uint32 {
	return []uint32{
		0, 1, 2, 3, 7, 9, 10, 11, 31, 32, 33, 63, 64, 99, 100, 255, 256, 1000, 65535, 65536, 65537,
		999999999, 1000000000, 1<<30 - 1, 1 << 30, 1<<31 - 2, 1<<31 - 1, 1 << 31, 1<<31 + 1, 1<<31 + 2,
		3 << 30, 0xdeadbeef, 0x55555555, 0xaaaaaaaa, top - 65535, top - 32, top - 9, top - 6, top - 2, top - 1, top,
	}
}

// some answers the edges, and numbers from all over, always the same ones.
func some() []uint32 {
	l := edges()
	x := uint32(1)
	for range 200 {
		x = x*1664525 + 1013904223
		l = append(l, x, x>>(x%32))
	}
	return l
}

// signed reads a number with a sign by the chapter's words.
func signed(a uint32) *big.Int {
	n := new(big.Int).SetUint64(uint64(a))
	if a >= 1<<31 {
		n.Sub(n, new(big.Int).Lsh(big.NewInt(1), 32))
	}
	return n
}

// rest answers a number's rest by 2^32.
func rest(n *big.Int) uint32 {
	return uint32(new(big.Int).Mod(n, new(big.Int).Lsh(big.NewInt(1), 32)).Uint64())
}

// 1.1

func TestSign(t *testing.T) {
	for _, x := range []struct {
		a    uint32
		want int
	}{{0, 0}, {1, 1}, {7, 7}, {1<<31 - 1, 2147483647}, {1 << 31, -2147483648}, {1<<31 + 1, -2147483647}, {top - 6, -7}, {top, -1}} {
		if got := Sign(x.a); got != x.want {
			t.Errorf("Sign(%d) = %d, want %d", x.a, got, x.want)
		}
	}
	for _, a := range some() {
		if got := Sign(a); big.NewInt(int64(got)).Cmp(signed(a)) != 0 {
			t.Errorf("Sign(%d) = %d, want %v", a, got, signed(a))
		}
	}
}

func TestOf(t *testing.T) {
	for _, x := range []struct {
		n    int
		want uint32
	}{
		{0, 0}, {1, 1}, {-1, top}, {-7, top - 6}, {1<<31 - 1, 1<<31 - 1}, {1 << 31, 1 << 31}, {-1 << 31, 1 << 31}, {-1<<31 - 1, 1<<31 - 1},
		{1<<32 - 1, top}, {1 << 32, 0}, {1<<32 + 5, 5}, {-1 << 32, 0}, {-1<<32 - 1, top}, {3<<40 + 9, 9}, {math.MaxInt, top}, {math.MinInt, 0}, {math.MinInt + 1, 1},
	} {
		if got := Of(x.n); got != x.want {
			t.Errorf("Of(%d) = %d, want %d", x.n, got, x.want)
		}
	}
	for _, a := range some() {
		if got := Of(Sign(a)); got != a {
			t.Errorf("Of(Sign(%d)) = %d", a, got)
		}
		for _, turns := range []int{-3, -1, 0, 1, 1 << 20} {
			if got := Of(int(a) + turns<<32); got != a {
				t.Errorf("Of(%d + %d * 2^32) = %d", a, turns, got)
			}
		}
	}
}

func TestText(t *testing.T) {
	for _, x := range []struct {
		a    uint32
		want string
	}{
		{0, "0"}, {1, "1"}, {9, "9"}, {10, "10"}, {100, "100"}, {1000000007, "1000000007"}, {1<<31 - 1, "2147483647"},
		{1 << 31, "-2147483648"}, {1<<31 + 1, "-2147483647"}, {top - 9, "-10"}, {top - 8, "-9"}, {top - 6, "-7"}, {top, "-1"},
	} {
		if got := Text(x.a); got != x.want {
			t.Errorf("Text(%d) = %q, want %q", x.a, got, x.want)
		}
	}
	for _, a := range some() {
		if got, want := Text(a), strconv.Itoa(Sign(a)); got != want {
			t.Errorf("Text(%d) = %q, want %q", a, got, want)
		}
	}
}

// 1.2

func TestDo(t *testing.T) {
	for _, x := range []struct {
		op         int
		a, b, want uint32
	}{
		{api.Add, 2, 3, 5}, {api.Add, top, 1, 0}, {api.Add, 1 << 31, 1 << 31, 0}, {api.Add, 1<<31 - 1, 1, 1 << 31}, {api.Add, top, top, top - 1},
		{api.Sub, 5, 3, 2}, {api.Sub, 0, 1, top}, {api.Sub, 1 << 31, 1, 1<<31 - 1}, {api.Sub, 3, top, 4},
		{api.Mul, 6, 7, 42}, {api.Mul, 65536, 65536, 0}, {api.Mul, top, top, 1}, {api.Mul, 1 << 31, 3, 1 << 31}, {api.Mul, 65537, 65537, 131073},
		{api.Div, 7, 2, 3}, {api.Div, top - 6, 2, top - 2}, {api.Div, 7, top - 1, top - 2}, {api.Div, top - 6, top - 1, 3}, {api.Div, 0, 5, 0},
		{api.Div, 1, top, top}, {api.Div, 1 << 31, 1, 1 << 31}, {api.Div, 1 << 31, top, 1 << 31}, {api.Div, 1 << 31, 1 << 31, 1}, {api.Div, 5, 1 << 31, 0},
		{api.Rem, 7, 2, 1}, {api.Rem, top - 6, 2, top}, {api.Rem, 7, top - 1, 1}, {api.Rem, top - 6, top - 1, top}, {api.Rem, 0, 5, 0},
		{api.Rem, 1 << 31, top, 0}, {api.Rem, 1 << 31, 10, top - 7}, {api.Rem, 5, 1 << 31, 5},
		{api.And, 12, 10, 8}, {api.And, top, 0xdeadbeef, 0xdeadbeef}, {api.And, 0x55555555, 0xaaaaaaaa, 0},
		{api.Or, 12, 10, 14}, {api.Or, 0x55555555, 0xaaaaaaaa, top}, {api.Or, 0, 0, 0},
		{api.Xor, 12, 10, 6}, {api.Xor, top, 0x55555555, 0xaaaaaaaa}, {api.Xor, 1 << 31, 1 << 31, 0},
		{api.Shl, 1, 0, 1}, {api.Shl, 1, 31, 1 << 31}, {api.Shl, 1, 32, 1}, {api.Shl, 1, 33, 2}, {api.Shl, 3, 31, 1 << 31}, {api.Shl, 3, top, 1 << 31}, {api.Shl, 5, 1 << 31, 5},
		{api.Shr, 1 << 31, 31, 1}, {api.Shr, top, 4, 0x0fffffff}, {api.Shr, top, 32, top}, {api.Shr, 8, 35, 1}, {api.Shr, top, top, 1}, {api.Shr, 1, 1, 0},
		{api.Lt, 1, 2, 1}, {api.Lt, 2, 1, 0}, {api.Lt, 2, 2, 0}, {api.Lt, top, 0, 1}, {api.Lt, 0, top, 0}, {api.Lt, 1 << 31, 1<<31 - 1, 1}, {api.Lt, 1<<31 - 1, 1 << 31, 0}, {api.Lt, top - 1, top, 1},
		{api.Eq, 4, 4, 1}, {api.Eq, 4, 5, 0}, {api.Eq, 0, 1 << 31, 0}, {api.Eq, top, top, 1},
	} {
		if got, ok := Do(x.op, x.a, x.b); got != x.want || !ok {
			t.Errorf("Do(%d, %d, %d) = %d, %v, want %d", x.op, x.a, x.b, got, ok, x.want)
		}
	}
}

func TestDoByZero(t *testing.T) {
	for _, a := range some() {
		for _, op := range []int{api.Div, api.Rem} {
			if got, ok := Do(op, a, 0); got != 0 || ok {
				t.Errorf("Do(%d, %d, 0) = %d, %v", op, a, got, ok)
			}
		}
	}
}

func TestDoOfNone(t *testing.T) {
	ops := []int{
		api.Halt, api.Movi, api.Mov, api.Load, api.Store, api.MaskD, api.MaskC, api.Jmp, api.Jz, api.Jr, api.Gate, api.Nop,
		24, 99, 256 + api.Add, 1<<32 + api.Add, -1, -api.Add, math.MaxInt, math.MinInt, math.MinInt + api.Add,
	}
	for _, op := range ops {
		for _, a := range edges() {
			for _, b := range edges() {
				if got, ok := Do(op, a, b); got != 0 || ok {
					t.Errorf("Do(%d, %d, %d) = %d, %v", op, a, b, got, ok)
				}
			}
		}
	}
}

// wide does an operation in numbers of any size, by the chapter's words.
func wide(op int, a, b uint32) *big.Int {
	x, y, z := signed(a), signed(b), new(big.Int)
	bits := uint(b % 32)
	switch op {
	case api.Add:
		z.Add(x, y)
	case api.Sub:
		z.Sub(x, y)
	case api.Mul:
		z.Mul(x, y)
	case api.Div:
		z.Quo(x, y)
	case api.Rem:
		z.Rem(x, y)
	case api.And:
		z.And(x, y)
	case api.Or:
		z.Or(x, y)
	case api.Xor:
		z.Xor(x, y)
	case api.Shl:
		z.Lsh(x, bits)
	case api.Shr:
		z.Rsh(new(big.Int).SetUint64(uint64(a)), bits)
	case api.Lt:
		if x.Cmp(y) < 0 {
			z.SetInt64(1)
		}
	case api.Eq:
		if x.Cmp(y) == 0 {
			z.SetInt64(1)
		}
	}
	return z
}

func TestDoIsWide(t *testing.T) {
	numbers := some()
	for op := api.Add; op <= api.Eq; op++ {
		for _, a := range numbers {
			for _, b := range numbers {
				if b == 0 && (op == api.Div || op == api.Rem) {
					continue
				}
				if got, ok := Do(op, a, b); got != rest(wide(op, a, b)) || !ok {
					t.Fatalf("Do(%d, %d, %d) = %d, %v, want %d", op, a, b, got, ok, rest(wide(op, a, b)))
				}
			}
		}
	}
}

// 1.3

func TestQuotientAndLeft(t *testing.T) {
	numbers := some()
	for _, a := range numbers {
		for _, b := range numbers {
			if b != 0 {
				checkDivision(t, a, b)
			}
		}
	}
}

// checkDivision puts a dividend together again, and sees that what is left is as small as it may be, and on the dividend's side of 0.
func checkDivision(t *testing.T, a, b uint32) {
	t.Helper()
	q, _ := Do(api.Div, a, b)
	left, _ := Do(api.Rem, a, b)
	product, _ := Do(api.Mul, q, b)
	if sum, _ := Do(api.Add, product, left); sum != a {
		t.Fatalf("%d by %d: %d times the divisor and %d are %d", a, b, q, left, sum)
	}
	if signed(left).CmpAbs(signed(b)) >= 0 || left != 0 && Sign(left) < 0 != (Sign(a) < 0) {
		t.Fatalf("%d by %d: %d is left", a, b, Sign(left))
	}
}
