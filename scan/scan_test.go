package scan

import (
	"bytes"
	"fmt"
	"slices"
	"testing"

	"corral/api"
)

const top = 1<<32 - 1

// row answers n bytes that follow each other by a rule, so that each run of the tests has the same.
func row(n int, seed uint32) []byte {
	b := make([]byte, n)
	for i := range b {
		seed = seed*1664525 + 1013904223
		b[i] = byte(seed >> 24)
	}
	return b
}

// plainSize answers, by chapter 2's words, how many bytes an operation has.
func plainSize(op int) int {
	switch {
	case op == 0 || op == 23:
		return 1
	case op == 1 || op == 20:
		return 6
	case op == 19:
		return 5
	case op >= 2 && op <= 22:
		return 2
	}
	return 0
}

// plainLay answers an instruction's bytes, and nothing if it isn't right, by chapter 2's words.
func plainLay(x api.Ins) []byte {
	n := x.Imm
	var l []byte
	switch op := byte(x.Op); x.Op {
	case 0, 23:
		l = []byte{op}
	case 1, 20:
		l = []byte{op, byte(x.A), byte(n), byte(n >> 8), byte(n >> 16), byte(n >> 24)}
	case 19:
		l = []byte{op, byte(n), byte(n >> 8), byte(n >> 16), byte(n >> 24)}
	case 22:
		l = []byte{op, byte(n)}
	case 17, 18, 21:
		l = []byte{op, byte(16 * x.A)}
	default:
		l = []byte{op, byte(16*x.A + x.B)}
	}
	if y, size := plainRead(l); size != len(l) || y != x {
		return nil
	}
	return l
}

// plainRead answers the instruction that bytes begin with, and how many they are, by chapter 2's words.
func plainRead(b []byte) (api.Ins, int) {
	if len(b) == 0 || plainSize(int(b[0])) == 0 || plainSize(int(b[0])) > len(b) {
		return api.Ins{}, 0
	}
	x := api.Ins{Op: int(b[0])}
	four := func(b []byte) uint32 { return uint32(b[0]) + uint32(b[1])<<8 + uint32(b[2])<<16 + uint32(b[3])<<24 }
	switch x.Op {
	case 0, 23:
	case 1, 20:
		x.A, x.Imm = int(b[1]), four(b[2:])
	case 19:
		x.Imm = four(b[1:])
	case 22:
		x.Imm = uint32(b[1])
	default:
		x.A, x.B = int(b[1])/16, int(b[1])%16
		if x.B > 0 && (x.Op == 17 || x.Op == 18 || x.Op == 21) {
			return api.Ins{}, 0
		}
	}
	if x.A > 7 || x.B > 7 {
		return api.Ins{}, 0
	}
	return x, plainSize(x.Op)
}

// plainScan scans code by the chapter's words.
func plainScan(code []byte) (starts []int, l []api.Ins, e api.Errno) {
	if len(code) < 32 || len(code) > 4096 || len(code)%32 != 0 {
		return nil, nil, 4
	}
	for at := 0; at < len(code); {
		x, n := plainRead(code[at:])
		if n == 0 || at/32 != (at+n-1)/32 {
			return nil, nil, 2
		}
		starts, l = append(starts, at), append(l, x)
		at += n
	}
	return starts, l, 0
}

// plainPad pads instructions by the chapter's words.
func plainPad(l []api.Ins) []byte {
	var code []byte
	for _, x := range l {
		laid := plainLay(x)
		if len(laid) == 0 {
			return nil
		}
		for len(code)/32 != (len(code)+len(laid)-1)/32 {
			code = append(code, 23)
		}
		code = append(code, laid...)
	}
	for len(code)%32 != 0 {
		code = append(code, 23)
	}
	return code
}

// checkScan holds what Starts and Listing answer against the plain way.
func checkScan(t *testing.T, name string, code []byte) {
	t.Helper()
	starts, l, want := plainScan(code)
	if got, e := Starts(code); e != want || !slices.Equal(got, starts) {
		t.Errorf("%s: Starts of %d bytes = %v, %d, want %v, %d", name, len(code), got, e, starts, want)
	}
	if got, e := Listing(code); e != want || !slices.Equal(got, l) {
		t.Errorf("%s: Listing of %d bytes = %v, %d, want %v, %d", name, len(code), got, e, l, want)
	}
}

// checkError holds that Starts and Listing answer an error, and nothing beside it.
func checkError(t *testing.T, name string, code []byte, want api.Errno) {
	t.Helper()
	if got, e := Starts(code); e != want || len(got) != 0 {
		t.Errorf("%s: Starts of %d bytes = %v, %d, want %d", name, len(code), got, e, want)
	}
	if got, e := Listing(code); e != want || len(got) != 0 {
		t.Errorf("%s: Listing of %d bytes = %v, %d, want %d", name, len(code), got, e, want)
	}
}

// nops answers the bytes of n Nops.
func nops(n int) []byte { return bytes.Repeat([]byte{23}, n) }

// joined answers rows of bytes, one behind the other.
func joined(rows ...[]byte) []byte { return slices.Concat(rows...) }

// ofEach answers an instruction of each operation, with what it has at its greatest.
func ofEach() []api.Ins {
	var l []api.Ins
	for op := range 24 {
		switch x := (api.Ins{Op: op}); op {
		case api.Halt, api.Nop:
			l = append(l, x)
		case api.Movi, api.Jz:
			l = append(l, api.Ins{Op: op, A: 7, Imm: top})
		case api.Jmp:
			l = append(l, api.Ins{Op: op, Imm: top})
		case api.Gate:
			l = append(l, api.Ins{Op: op, Imm: 255})
		case api.MaskD, api.MaskC, api.Jr:
			l = append(l, api.Ins{Op: op, A: 7})
		default:
			l = append(l, api.Ins{Op: op, A: 7, B: 6})
		}
	}
	return l
}

// someIns answers n instructions of all kinds, by a rule.
func someIns(n int, seed uint32) []api.Ins {
	l := make([]api.Ins, n)
	r := row(4*n, seed)
	for i := range l {
		x := ofEach()[int(r[4*i])%24]
		if x.A > 0 {
			x.A = int(r[4*i+1]) % 8
		}
		if x.B > 0 {
			x.B = int(r[4*i+2]) % 8
		}
		if x.Imm > 0 {
			x.Imm = uint32(r[4*i+3])
		}
		l[i] = x
	}
	return l
}

// wrong answers what is no instruction.
func wrong() []api.Ins {
	return []api.Ins{
		{Op: -1}, {Op: 24}, {Op: 99}, {Op: 255}, {Op: 256}, {Op: 256 + api.Nop}, {Op: 1 << 32}, {Op: -256 + api.Nop},
		{Op: api.Halt, A: 1}, {Op: api.Halt, Imm: 1}, {Op: api.Nop, B: 1}, {Op: api.Nop, A: -1}, {Op: api.Nop, Imm: top},
		{Op: api.Movi, A: 8}, {Op: api.Movi, A: -1}, {Op: api.Movi, B: 1}, {Op: api.Add, A: 8}, {Op: api.Add, B: 8}, {Op: api.Add, B: -1}, {Op: api.Add, Imm: 1},
		{Op: api.MaskD, B: 1}, {Op: api.Jr, A: 256}, {Op: api.Jmp, A: 1}, {Op: api.Jz, A: 16}, {Op: api.Gate, Imm: 256}, {Op: api.Gate, A: 1},
	}
}

// withoutNops answers the other instructions.
func withoutNops(l []api.Ins) []api.Ins {
	return slices.DeleteFunc(slices.Clone(l), func(x api.Ins) bool { return x.Op == api.Nop })
}

// 7.1

// TestLengths has Nops, of which only the number may be wrong, and bytes of which no instruction is made: the length is told first.
func TestLengths(t *testing.T) {
	b := nops(4300)
	none := bytes.Repeat([]byte{255}, 4300)
	for n := range len(b) + 1 {
		if n >= 32 && n <= 4096 && n%32 == 0 {
			checkScan(t, "Nops", b[:n])
			checkError(t, "no instructions", none[:n], 2)
			continue
		}
		checkError(t, "Nops", b[:n], 4)
		checkError(t, "no instructions", none[:n], 4)
	}
	checkError(t, "nil", nil, 4)
	checkError(t, "no bytes", []byte{}, 4)
	for _, n := range []int{4096 + 32, 8192, 65536, 65536 + 32, 1 << 20} {
		checkError(t, "many Nops", nops(n), 4)
		checkError(t, "many bytes", row(n, 5), 4)
	}
}

// TestFirstError has an instruction that is cut off by the code's end, and one that reaches into the next bundle: where the length is wrong, too, it is the length that is told.
func TestFirstError(t *testing.T) {
	movi := plainLay(api.Ins{Op: api.Movi, A: 1, Imm: 7})
	for n := 1; n < 6; n++ {
		checkError(t, "cut off", joined(nops(32), movi[:n]), 4)
	}
	checkError(t, "reaches into the next bundle", joined(nops(30), movi, nops(27)), 4)
	checkError(t, "reaches into the next bundle", joined(nops(30), movi, nops(28)), 2)
	checkError(t, "no instruction", joined([]byte{99}, nops(4096)), 4)
	checkError(t, "no instruction", joined([]byte{99}, nops(4127)), 4)
	checkError(t, "no instruction", joined([]byte{99}, nops(4095)), 2)
}

func TestNops(t *testing.T) {
	for n := 32; n <= 4096; n += 32 {
		starts, e := Starts(nops(n))
		l, f := Listing(nops(n))
		if e != 0 || f != 0 || len(starts) != n || len(l) != n {
			t.Fatalf("%d Nops: %d starts, %d; %d instructions, %d", n, len(starts), e, len(l), f)
		}
		for i := range n {
			if starts[i] != i || l[i] != (api.Ins{Op: api.Nop}) {
				t.Fatalf("%d Nops: %d at %d, %v", n, i, starts[i], l[i])
			}
		}
	}
}

func TestWrittenOut(t *testing.T) {
	code := joined([]byte{1, 3, 4, 3, 2, 1, 3, 0x12, 17, 0x50, 16, 0x57, 19, 0, 1, 0, 0, 20, 7, 255, 255, 255, 255, 22, 200, 21, 0x60, 0, 15, 0x01, 18, 0x70}, nops(31), []byte{0})
	starts := []int{0, 6, 8, 10, 12, 17, 23, 25, 27, 28, 30}
	l := []api.Ins{
		{Op: api.Movi, A: 3, Imm: 0x01020304}, {Op: api.Add, A: 1, B: 2}, {Op: api.MaskD, A: 5}, {Op: api.Store, A: 5, B: 7}, {Op: api.Jmp, Imm: 256},
		{Op: api.Jz, A: 7, Imm: top}, {Op: api.Gate, Imm: 200}, {Op: api.Jr, A: 6}, {Op: api.Halt}, {Op: api.Load, B: 1}, {Op: api.MaskC, A: 7},
	}
	for i := range 31 {
		starts, l = append(starts, 32+i), append(l, api.Ins{Op: api.Nop})
	}
	starts, l = append(starts, 63), append(l, api.Ins{Op: api.Halt})
	if got, e := Starts(code); e != 0 || !slices.Equal(got, starts) {
		t.Errorf("Starts = %v, %d, want %v", got, e, starts)
	}
	if got, e := Listing(code); e != 0 || !slices.Equal(got, l) {
		t.Errorf("Listing = %v, %d, want %v", got, e, l)
	}
	checkScan(t, "written out", code)
}

// TestEnds has, of each operation, an instruction that ends with its bundle's last byte: in the first bundle, in one between, in the last one, and in the only one.
func TestEnds(t *testing.T) {
	for _, x := range ofEach() {
		laid := plainLay(x)
		bundle := joined(nops(32-len(laid)), laid)
		for _, around := range [][2]int{{0, 0}, {0, 1}, {1, 1}, {1, 0}, {3, 4}, {127, 0}, {0, 127}} {
			code := joined(nops(32*around[0]), bundle, nops(32*around[1]))
			checkScan(t, "ends with its bundle", code)
			starts, e := Starts(code)
			if at := 32*around[0] + 32 - len(laid); e != 0 || len(starts) != len(code)-len(laid)+1 || !slices.Contains(starts, at) {
				t.Errorf("%v at %d of %d: %d starts, %d", x, at, len(code), len(starts), e)
			}
		}
	}
}

// TestReachesBeyond has, of each operation, an instruction that reaches into the next bundle by each number of bytes. Its other bytes stand there, and instructions behind them, so that nothing but the bundle's end is wrong.
func TestReachesBeyond(t *testing.T) {
	for _, x := range ofEach() {
		laid := plainLay(x)
		for by := 1; by < len(laid); by++ {
			two := joined(nops(32-len(laid)+by), laid, nops(32-by))
			for _, around := range [][2]int{{0, 0}, {0, 1}, {1, 1}, {1, 0}, {0, 126}, {126, 0}} {
				checkError(t, "reaches beyond", joined(nops(32*around[0]), two, nops(32*around[1])), 2)
			}
			for _, ahead := range []int{0, 1, 127} {
				last := joined(nops(32*ahead), two)[:32*ahead+32] // its other bytes stand in spare room
				checkError(t, "reaches beyond the last one", last, 2)
				checkError(t, "reaches beyond the last one, without spare room", slices.Clip(bytes.Clone(last)), 2)
			}
		}
	}
}

// TestNextBundleBeginsAnew has bytes that would be read well from within the bundle ahead, but not from the bundle's first byte on, and the other way round.
func TestNextBundleBeginsAnew(t *testing.T) {
	for by := 1; by < 6; by++ {
		behind := joined([]byte{99, 99, 99, 99, 99}[:by], nops(32-by))
		checkError(t, "read from within", joined(nops(26+by), []byte{1, 0, 99, 99, 99, 99}[:6-by], behind), 2)
		checkError(t, "begins anew", joined(nops(26+by), []byte{1, 0, 0, 0, 0, 0}[:6-by], nops(32)), 2)
		checkError(t, "a bundle of its own is no instructions", joined(nops(32), behind), 2)
	}
}

// TestNoInstruction has a byte that begins no instruction at each place of a bundle.
func TestNoInstruction(t *testing.T) {
	for _, bundles := range []int{1, 2, 3} {
		for at := range 32 * bundles {
			code := nops(32 * bundles)
			for x := range 256 {
				code[at] = byte(x)
				checkScan(t, "a byte", code)
				if x > 23 {
					checkError(t, "no operation", code, 2)
				}
			}
		}
	}
	for at := 0; at < 4096; at += 61 {
		code := nops(4096)
		code[at] = 24
		checkError(t, "no operation", code, 2)
	}
}

// TestWrongRegisters has operations that are there, with registers that aren't.
func TestWrongRegisters(t *testing.T) {
	for _, s := range []string{"\x03\x82", "\x03\x28", "\x02\xf0", "\x10\x88", "\x0f\x0f", "\x11\x21", "\x12\x01", "\x15\x80", "\x01\x08\x00\x00\x00\x00", "\x14\x70\x00\x00\x00\x00"} {
		for at := range 32 - len(s) + 1 {
			for _, around := range [][2]int{{0, 0}, {0, 1}, {2, 2}, {1, 0}} {
				bundle := joined(nops(at), []byte(s), nops(32-at-len(s)))
				checkError(t, "wrong registers", joined(nops(32*around[0]), bundle, nops(32*around[1])), 2)
			}
		}
	}
}

// TestWithin has, within an instruction, bytes that begin none, and such as do: there nothing begins.
func TestWithin(t *testing.T) {
	for x := range 256 {
		b := byte(x)
		checkScan(t, "within", joined([]byte{1, 7, b, b, b, b, 20, 0, b, b, b, b, 19, b, b, b, b, 22, b}, nops(13)))
		checkScan(t, "within", joined(nops(32), []byte{3, b, 17, b}, nops(28)))
		starts, e := Starts(joined([]byte{1, 7, b, b, b, b, 20, 0, b, b, b, b, 19, b, b, b, b, 22, b}, nops(13)))
		if e != 0 || len(starts) != 17 || !slices.Equal(starts[:5], []int{0, 6, 12, 17, 19}) {
			t.Errorf("Starts of instructions with %d within = %v, %d", x, starts, e)
		}
	}
}

// TestScanOfRows has bytes by a rule: such as are mostly instructions, with one changed or not, and such as are none.
func TestScanOfRows(t *testing.T) {
	right := 0
	for i := range 3000 {
		r := row(4, uint32(i))
		code := plainPad(someIns(1+int(r[0])%60, uint32(i)))
		if r[1]%2 == 0 {
			code[(int(r[2])*256+int(r[3]))%len(code)] = r[1] / 4
		}
		checkScan(t, "instructions", code)
		small := row(64, uint32(i))
		for k := range small {
			small[k] %= 24
		}
		checkScan(t, "small numbers", small)
		checkScan(t, "any bytes", row(32, uint32(i)))
		if _, e := Starts(code); e == 0 {
			right++
		}
	}
	if right < 1000 || right > 2500 {
		t.Errorf("of 3000 codes %d are scanned: too few or too many to tell much", right)
	}
}

// TestOneLength holds that there are as many starts as instructions, and that each begins where the one ahead ends.
func TestOneLength(t *testing.T) {
	for i := range 300 {
		code := plainPad(someIns(1+i, uint32(i)))
		starts, e := Starts(code)
		l, f := Listing(code)
		if e != f || len(starts) != len(l) {
			t.Fatalf("%d starts, %d; %d instructions, %d", len(starts), e, len(l), f)
		}
		at := 0
		for k, x := range l {
			if starts[k] != at || !bytes.HasPrefix(code[at:], plainLay(x)) {
				t.Fatalf("%v begins at %d, not at %d", x, starts[k], at)
			}
			at += plainSize(x.Op)
		}
		if e == 0 && at != len(code) {
			t.Errorf("the last one of %d bytes ends at %d", len(code), at)
		}
	}
}

// TestScanKeepsNothing holds that code stays, spare room included, and that what is answered is memory of its own.
func TestScanKeepsNothing(t *testing.T) {
	code := plainPad(someIns(60, 4))
	wantStarts, wantList, _ := plainScan(code)
	all := joined(row(16, 3), code, row(64, 4))
	was := bytes.Clone(all)
	part := all[16 : 16+len(code)]
	starts, _ := Starts(part)
	l, _ := Listing(part)
	clear(all)
	if !slices.Equal(starts, wantStarts) || !slices.Equal(l, wantList) {
		t.Errorf("what was answered is another one once the code is cleared")
	}
	copy(all, was)
	againStarts, _ := Starts(part)
	againList, _ := Listing(part)
	clear(starts[:cap(starts)])
	clear(l[:cap(l)])
	if !slices.Equal(againStarts, wantStarts) || !slices.Equal(againList, wantList) {
		t.Errorf("an answer shares memory with an earlier one")
	}
	if !bytes.Equal(all, was) {
		t.Errorf("the code became another one")
	}
	part[0] = 99
	was = bytes.Clone(all)
	checkError(t, "no instruction", part, 2)
	checkError(t, "another length", part[:33], 4)
	if !bytes.Equal(all, was) {
		t.Errorf("code that is refused became another one")
	}
}

// 7.2

// checkPad holds what Pad answers against the plain way.
func checkPad(t *testing.T, name string, l []api.Ins) {
	t.Helper()
	got, want := Pad(l), plainPad(l)
	if bytes.Equal(got, want) {
		return
	}
	t.Errorf("%s: Pad of %d instructions = %d bytes, want %d", name, len(l), len(got), len(want))
	if len(got)+len(want) < 500 {
		t.Errorf("%v, want %v", got, want)
	}
}

// same answers n times the same instruction.
func same(n int, x api.Ins) []api.Ins { return slices.Repeat([]api.Ins{x}, n) }

func TestPadOfNone(t *testing.T) {
	for _, l := range [][]api.Ins{nil, {}, make([]api.Ins, 0, 9)} {
		if got := Pad(l); len(got) != 0 {
			t.Errorf("Pad of none = %v", got)
		}
	}
}

// TestPadOfWrongOnes has one that isn't right as the only one, the first, between and as the last one.
func TestPadOfWrongOnes(t *testing.T) {
	for _, x := range wrong() {
		for _, n := range []int{1, 2, 3, 40, 200} {
			for _, at := range []int{0, n / 2, n - 1} {
				l := someIns(n, 7)
				l[at] = x
				if got := Pad(l); len(got) != 0 {
					t.Errorf("Pad of %d instructions, of which %v is none = %v", n, x, got)
				}
			}
		}
		for _, n := range []int{32, 4096} { // where its bundle is full, or the code
			if got := Pad(append(same(n, api.Ins{Op: api.Nop}), x)); len(got) != 0 {
				t.Errorf("Pad of %d Nops and %v = %v", n, x, got)
			}
		}
	}
}

func TestPadOfEach(t *testing.T) {
	for _, x := range ofEach() {
		laid := plainLay(x)
		want := joined(laid, nops(32-len(laid)))
		if got := Pad([]api.Ins{x}); !bytes.Equal(got, want) {
			t.Errorf("Pad of %v = %v, want %v", x, got, want)
		}
		for n := range 200 {
			checkPad(t, "the same one", same(n, x))
		}
	}
}

// TestPadOfFull has instructions that just fill a bundle, or several: there are no Nops.
func TestPadOfFull(t *testing.T) {
	halt, add, jmp, movi := api.Ins{}, api.Ins{Op: api.Add, A: 1, B: 2}, api.Ins{Op: api.Jmp, Imm: 64}, api.Ins{Op: api.Movi, A: 1, Imm: 7}
	for _, l := range [][]api.Ins{
		same(32, halt), same(16, add), append(same(5, movi), add), append(same(6, jmp), add), append([]api.Ins{add}, same(5, movi)...),
		append(same(12, halt), same(4, jmp)...), append(same(26, halt), movi), append(same(27, halt), jmp), append(same(30, halt), add),
	} {
		for times := range 5 {
			all := slices.Repeat(l, times)
			var want []byte
			for _, x := range all {
				want = append(want, plainLay(x)...)
			}
			if got := Pad(all); len(want) != 32*times || !bytes.Equal(got, want) {
				t.Errorf("Pad of what fills %d bundles = %v, want %v", times, got, want)
			}
		}
	}
}

// TestPadAhead has, of each operation, one that needs each number of Nops ahead, in the first bundle and in a later one, and none too many.
func TestPadAhead(t *testing.T) {
	halts := func(n int) []byte { return make([]byte, n) }
	for _, x := range ofEach() {
		laid := plainLay(x)
		for _, full := range []int{0, 1, 5} {
			for room := 0; room <= 32; room++ {
				l := append(same(32*full+32-room, api.Ins{}), x, api.Ins{})
				want := joined(halts(32*full+32-room), laid, []byte{0})
				if room < len(laid) {
					want = joined(halts(32*full+32-room), nops(room), laid, []byte{0})
				}
				want = append(want, nops((32-len(want)%32)%32)...)
				if got := Pad(l); !bytes.Equal(got, want) {
					t.Errorf("Pad of %v with %d bytes left = %v, want %v", x, room, got, want)
				}
			}
		}
	}
}

// TestPadOfNops has Nops among the others: they stay where they are.
func TestPadOfNops(t *testing.T) {
	nop, movi := api.Ins{Op: api.Nop}, api.Ins{Op: api.Movi, A: 1, Imm: 7}
	laid := plainLay(movi)
	for n := range 70 {
		got := Pad(append(same(n, nop), movi))
		at := n
		if n%32 > 26 {
			at = n - n%32 + 32
		}
		want := joined(nops(at), laid, nops(32-at%32-6))
		if !bytes.Equal(got, want) {
			t.Errorf("Pad of %d Nops and Movi = %v, want %v", n, got, want)
		}
		checkPad(t, "Nops behind", append([]api.Ins{movi}, same(n, nop)...))
		checkPad(t, "Nops between", append(append([]api.Ins{movi}, same(n, nop)...), movi))
		if got := Pad(same(n, nop)); !bytes.Equal(got, nops((n+31)/32*32)) {
			t.Errorf("Pad of %d Nops = %v", n, got)
		}
	}
}

// TestPadOfMany has more instructions than code may have bytes: they are padded all the same, and refused where they are scanned.
func TestPadOfMany(t *testing.T) {
	for _, x := range ofEach() {
		for _, n := range []int{639, 640, 641, 768, 769, 2048, 2049, 4096, 4097, 5000} {
			l := same(n, x)
			checkPad(t, "many", l)
			code := Pad(l)
			perBundle := 32 / plainSize(x.Op)
			if want := (n + perBundle - 1) / perBundle * 32; len(code) != want {
				t.Errorf("Pad of %d times %v = %d bytes, want %d", n, x, len(code), want)
			}
			if len(code) > 4096 {
				checkError(t, "padded, too long", code, 4)
			}
		}
	}
	l := someIns(100000, 3)
	checkPad(t, "very many", l)
	if got := Pad(append(l, api.Ins{Op: 24})); len(got) != 0 {
		t.Errorf("Pad of very many, the last of which is none = %d bytes", len(got))
	}
}

func TestPadOfRows(t *testing.T) {
	for i := range 3000 {
		checkPad(t, "a row", someIns(i%150, uint32(i)))
	}
}

// TestPadKeepsNothing holds that the instructions stay, spare room included, and that what is answered is memory of its own.
func TestPadKeepsNothing(t *testing.T) {
	all := someIns(90, 5)
	was := slices.Clone(all)
	for _, n := range []int{1, 7, 60} {
		got := Pad(all[:n])
		again := Pad(all[:n])
		want := plainPad(was[:n])
		clear(all)
		if !bytes.Equal(got, want) {
			t.Errorf("what was answered is another one once the instructions are cleared")
		}
		copy(all, was)
		clear(got[:cap(got)])
		if !bytes.Equal(again, want) || !slices.Equal(all, was) {
			t.Errorf("an answer shares memory with a later one, or what was handed in became another one")
		}
	}
	all[3] = api.Ins{Op: 99}
	was = slices.Clone(all)
	if got := Pad(all[:9]); len(got) != 0 || !slices.Equal(all, was) {
		t.Errorf("Pad = %v, and what was handed in is %v", got, all)
	}
}

// 7.3

// checkThereAndBack holds that what is padded is scanned, begins each bundle anew, and is the instructions, but for Nops.
func checkThereAndBack(t *testing.T, l []api.Ins) {
	t.Helper()
	code := Pad(l)
	starts, e := Starts(code)
	got, f := Listing(code)
	if e != 0 || f != 0 {
		t.Fatalf("%d instructions, padded to %d bytes, are refused: %d, %d", len(l), len(code), e, f)
	}
	for begin := 0; begin < len(code); begin += 32 {
		if !slices.Contains(starts, begin) {
			t.Fatalf("nothing begins at %d of %d bytes", begin, len(code))
		}
	}
	if !slices.Equal(withoutNops(got), withoutNops(l)) {
		t.Fatalf("%v are, once padded, %v", l, got)
	}
	if len(got) < len(l) || !bytes.Equal(Pad(got), code) {
		t.Fatalf("what is listed of %d bytes isn't padded as it was", len(code))
	}
}

func TestPaddedIsScanned(t *testing.T) {
	for _, x := range ofEach() {
		for n := 1; n <= 640; n += 9 {
			checkThereAndBack(t, same(n, x))
		}
		for _, y := range ofEach() {
			checkThereAndBack(t, slices.Repeat([]api.Ins{x, y}, 50))
			checkThereAndBack(t, append(same(27, x), same(9, y)...))
		}
	}
	for i := range 1500 {
		checkThereAndBack(t, someIns(1+i%500, uint32(i)))
	}
}

// TestScannedIsPadded holds that what is listed, Nops and all, is padded as the code that it was listed from.
func TestScannedIsPadded(t *testing.T) {
	n := 0
	for i := range 20000 {
		code := row(32, uint32(i))
		for k := range code {
			code[k] = code[k] % 24 * (code[k] / 128)
		}
		l, e := Listing(code)
		if e != 0 {
			continue
		}
		n++
		if got := Pad(l); !bytes.Equal(got, code) {
			t.Errorf("%v is listed as %v, which is padded as %v", code, l, got)
		}
	}
	if n < 500 {
		t.Errorf("of 20000 bundles %d are scanned: too few to tell much", n)
	}
}

// TestMostThatIsScanned has as many instructions as there may be of each size, and one more.
func TestMostThatIsScanned(t *testing.T) {
	for _, x := range ofEach() {
		n := 128 * (32 / plainSize(x.Op))
		checkThereAndBack(t, same(n, x))
		checkError(t, "one more", Pad(same(n+1, x)), 4)
	}
}

func ExampleStarts() {
	starts, e := Starts(bytes.Repeat([]byte{api.Nop}, 32))
	fmt.Println(len(starts), e)
	// Output: 32 0
}
