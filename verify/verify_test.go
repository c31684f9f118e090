package verify

import (
	"bytes"
	"fmt"
	"testing"

	"corral/api"
	"corral/image"
)

// 10.1, Code

// wrongForms answers bytes that are no instruction, each fewer than a bundle.
func wrongForms() [][]byte {
	return [][]byte{{24}, {255}, {15, 0x80}, {15, 0x08}, {17, 0x21}, {18, 0x01}, {21, 0x22}, {1, 8, 0, 0, 0, 0}, {20, 8, 0, 0, 0, 0}, {20, 0x10, 0, 0, 0, 0}}
}

// wrongRules answers bytes that break chapter 8's rules wherever they stand in a bundle.
func wrongRules() [][]byte {
	return [][]byte{
		load(1, 2), store(2, 1), jr(2), load(0, 0), loads(2, 2)[2:], joined(maskD(1), load(1, 2)), joined(maskD(1), store(2, 1)), joined(maskC(1), jr(2)), joined(maskC(2), load(1, 2)), joined(maskD(2), jr(2)),
		joined(maskD(2), nops(1), load(1, 2)), joined(loads(1, 2), load(1, 2)), joined(maskD(2), jmp(0), load(1, 2)), joined(maskC(2), jz(1, 0), jr(2)), gate(5), gate(255), joined(maskD(2), gate(6)),
	}
}

// pairs answers pairs of each kind, of each register.
func pairs() [][]byte {
	var all [][]byte
	for r := range 8 {
		all = append(all, loads(7-r, r), stores(r, 7-r), loads(r, r), stores(r, r), jumps(r))
	}
	return all
}

// safe answers code of so many bundles that has some of everything, each bundle with a jump to the next one, and one to the one before, around in a ring.
func safe(n int) []byte {
	var code []byte
	for k := range n {
		at := 32 * k
		next, before := 32*((k+1)%n), 32*((k+n-1)%n)
		code = append(code, joined(jumpTo(k%8, at, next), loads(k%8, 3), gate(k%5), stores(2, k%8), jumps(5), []byte{byte(3 + k%12), byte(k % 8)}, jumpTo(-1, at+22, before), nops(5))...)
	}
	return code
}

// faults are what may be wrong with code of full length, a bundle each, and what it is refused by.
func faults() map[api.Errno][]byte {
	return map[api.Errno][]byte{2: bundle(5, []byte{24}), 5: bundle(7, load(1, 2)), 6: bundle(3, jmp(-4))}
}

// TestExample has the chapter's example, at each length.
func TestExample(t *testing.T) {
	checkCode(t, "a bundle of Halts", halts(32), 0)
	for n := range 4400 {
		want := api.Errno(4)
		if n >= 32 && n <= 4064 && n%32 == 0 {
			want = 0
		}
		checkCode(t, "Halts", halts(n), want)
		checkCode(t, "Nops", nops(n), want)
	}
}

// TestSafe has code of one bundle up to most bundles, with some of everything.
func TestSafe(t *testing.T) {
	for n := 1; n <= 127; n++ {
		checkCode(t, "some of everything", safe(n), 0)
	}
	checkCode(t, "a bundle too many", safe(128), 4)
	checkCode(t, "more bundles than code has", safe(129), 4)
}

// TestLengths has lengths that chapter 7 refuses: nothing else is looked at.
func TestLengths(t *testing.T) {
	codes := [][]byte{safe(140), bytes.Repeat([]byte{255}, 4480), bytes.Repeat(load(1, 2), 2240), bytes.Repeat(bundle(0, jmp(-4)), 140)}
	for n := range 4400 {
		if n >= 32 && n <= 4096 && n%32 == 0 {
			continue
		}
		for _, code := range codes {
			checkCode(t, "another length", code[:n], 4)
		}
	}
	for _, code := range [][]byte{nil, {}, {0}, halts(31), halts(33), halts(4128), {24}, halts(1 << 17), nops(1<<16 + 32)} {
		checkCode(t, "another length", code, 4)
	}
}

// TestLongest has code of the greatest lengths that is safe but for its length, and such as has another fault as well.
func TestLongest(t *testing.T) {
	kinds := []func(bundles int) []byte{
		func(n int) []byte { return nops(32 * n) },
		func(n int) []byte { return halts(32 * n) },
		func(n int) []byte { return safe(n) },
		func(n int) []byte { return bytes.Repeat(loads(1, 2), 8*n) },
		func(n int) []byte { return bytes.Repeat(jumps(7), 8*n) },
		func(n int) []byte { return bytes.Repeat(bundle(27, jmp(-32)), n) },
	}
	for _, kind := range kinds {
		checkCode(t, "4032 bytes", kind(126), 0)
		checkCode(t, "4064 bytes", kind(127), 0)
		checkCode(t, "4096 bytes", kind(128), 4)
		for want, b := range faults() {
			for _, at := range []int{0, 32, 2048, 4000, 4032} {
				checkCode(t, "4064 bytes and a fault", put(kind(127), at, b), want)
				checkCode(t, "4096 bytes and a fault", put(kind(128), at, b), want)
				checkCode(t, "4128 bytes and a fault", put(kind(129), at, b), 4)
			}
			checkCode(t, "4096 bytes and a fault in the last bundle", put(kind(128), 4064, b), want)
		}
	}
	checkCode(t, "a jump to the longest code's last byte", put(nops(4064), 0, jumpTo(-1, 0, 4063)), 0)
	checkCode(t, "a jump behind it", put(nops(4064), 0, jumpTo(-1, 0, 4064)), 6)
	checkCode(t, "a jump to the last bundle of 4096 bytes", put(nops(4096), 0, jumpTo(-1, 0, 4064)), 4)
	checkCode(t, "a jump behind them", put(nops(4096), 0, jumpTo(-1, 0, 4096)), 6)
}

// TestForms has what is no instruction, ahead of and behind all other faults.
func TestForms(t *testing.T) {
	for _, w := range wrongForms() {
		for at := 0; at+len(w) <= 32; at++ {
			checkCode(t, "no instruction", bundle(at, w), 2)
			checkCode(t, "no instruction in the last bundle", joined(safe(3), bundle(at, w)), 2)
		}
		for want, b := range faults() {
			checkCode(t, "no instruction, ahead", joined(bundle(3, w), b), 2)
			checkCode(t, "no instruction, behind", joined(b, bundle(3, w)), 2)
			checkCode(t, "the fault alone", joined(b, safe(2)), want)
		}
	}
	for _, x := range [][]byte{movi(1, 0), jmp(0), jz(1, 0), gate(1), {3, 0x12}, maskD(1), maskC(1)} {
		for by := 1; by < len(x); by++ {
			code := joined(nops(32-by), x, nops(32-len(x)+by))
			checkCode(t, "what reaches into the next bundle", code, 2)
			checkCode(t, "what reaches beyond the code", code[:32], 2)
		}
	}
}

// TestRules has what breaks chapter 8's rules, ahead of and behind goals that may not be.
func TestRules(t *testing.T) {
	for _, r := range wrongRules() {
		for at := 0; at+len(r) <= 32; at++ {
			checkCode(t, "the rules", bundle(at, r), 5)
			checkCode(t, "the rules, in the last bundle", joined(safe(3), bundle(at, r)), 5)
			checkCode(t, "the rules, ahead", joined(bundle(at, r), bundle(0, jmp(-4))), 5)
			checkCode(t, "the rules, behind", joined(bundle(0, jmp(-4)), bundle(at, r)), 5)
		}
	}
	for _, second := range [][]byte{load(1, 2), store(2, 1)} {
		checkCode(t, "a pair that a bundle's end parts", joined(bundle(30, maskD(2)), bundle(0, second)), 5)
	}
	checkCode(t, "a jump that a bundle's end parts", joined(bundle(30, maskC(2)), bundle(0, jr(2))), 5)
	for n := range 256 {
		want := api.Errno(5)
		if n <= 4 {
			want = 0
		}
		checkCode(t, "a Gate", bundle(n%31, gate(n)), want)
	}
}

// TestPairs has each pair at all places of a bundle, and jumps into it.
func TestPairs(t *testing.T) {
	for _, pair := range pairs() {
		checkCode(t, "pairs only", bytes.Repeat(pair, 8), 0)
		checkCode(t, "pairs only, the most", bytes.Repeat(pair, 1016), 0)
		checkCode(t, "one pair more", bytes.Repeat(pair, 1017), 4)
		for at := 0; at+4 <= 32; at++ {
			code := joined(bundle(at, pair), nops(32))
			checkCode(t, "a pair", code, 0)
			for by, want := range []api.Errno{0, 6, 6, 6, 0} {
				checkCode(t, "a jump back to a pair", put(code, 40, jumpTo(-1, 40, at+by)), want)
				checkCode(t, "a Jz back to a pair", put(code, 40, jumpTo(2, 40, at+by)), want)
				checkCode(t, "a jump forth to a pair", joined(bundle(9, jumpTo(-1, 9, 32+at+by)), code), want)
			}
		}
	}
}

// TestGoals has jumps to each place of code, and to such as are ahead of it and behind.
func TestGoals(t *testing.T) {
	code := joined(nops(6), loads(1, 2), movi(3, 0x13131313), jumps(2), nops(12), nops(32))
	may := func(goal int) bool {
		within := goal > 0 && goal < 6 || goal > 6 && goal < 10 || goal > 10 && goal < 16 || goal > 16 && goal < 20
		return goal >= 0 && goal < 64 && !within
	}
	for goal := -100; goal < 200; goal++ {
		want := api.Errno(6)
		if may(goal) {
			want = 0
		}
		checkCode(t, "a jump", put(code, 0, jumpTo(3, 0, goal)), want)
	}
	for _, goal := range []int{-1 << 31, -4096, 4096, 1 << 24, 1<<31 - 1} {
		checkCode(t, "a jump far away", put(code, 0, jmp(goal)), 6)
		checkCode(t, "a Jz far away", put(code, 0, jz(0, goal)), 6)
	}
}

// TestRows has safe code that is drawn, such with a byte or two changed, and any bytes.
func TestRows(t *testing.T) {
	var told [7]int
	check := func(name string, code []byte) {
		want := plainCode(code)
		told[want]++
		checkCode(t, name, code, want)
	}
	for i := range 4000 {
		code := drawn(row(8+i%400, uint32(i)))
		checkCode(t, "drawn", code, 0)
		r := row(6, uint32(i)+77)
		code[(int(r[0])*256+int(r[1]))%len(code)] = r[2] % 25
		check("a byte changed", code)
		code[(int(r[3])*256+int(r[4]))%len(code)] = r[5]
		check("two bytes changed", code)
		check("any bytes", row(32, uint32(i)))
	}
	for _, e := range []int{0, 2, 5, 6} {
		if told[e] < 200 {
			t.Errorf("of the rows' errors there are %v: too few to tell much", told)
		}
	}
}

// 10.1, Image

// datas are data as an image may have.
func datas() [][]byte {
	return [][]byte{nil, {0}, {24}, []byte("some data"), row(31, 5), row(4064, 6), row(4096, 7), load(1, 2)}
}

// TestImages has images of safe code: what was laid is answered.
func TestImages(t *testing.T) {
	for _, n := range []int{1, 2, 7, 126, 127} {
		for _, data := range datas() {
			for _, code := range [][]byte{halts(32 * n), nops(32 * n), safe(n)} {
				checkImage(t, "safe", laid(code, data), code, data)
				b, _ := image.Lay(image.Image{Code: code, Data: data})
				checkImage(t, "laid by layer 6", b, code, data)
			}
		}
	}
}

// TestUnsafeImages has images as chapter 6 lets them be, of code that isn't safe, one for each of Code's errors.
func TestUnsafeImages(t *testing.T) {
	for _, data := range datas() {
		for want, b := range faults() {
			checkNoImage(t, "a bundle", laid(b, data), want)
			checkNoImage(t, "in the last bundle", laid(joined(safe(5), b), data), want)
			checkNoImage(t, "in 4096 bytes", laid(put(nops(4096), 4064, b), data), want)
		}
		checkNoImage(t, "4096 bytes", laid(nops(4096), data), 4)
		checkNoImage(t, "4096 bytes of everything", laid(safe(128), data), 4)
		for _, w := range wrongForms() {
			checkNoImage(t, "forms", laid(bundle(3, w), data), 2)
		}
		for _, r := range wrongRules() {
			checkNoImage(t, "rules", laid(bundle(3, r), data), 5)
		}
	}
}

// TestNoImages has bytes that chapter 6 refuses: what their code is doesn't matter.
func TestNoImages(t *testing.T) {
	codes := [][]byte{safe(2), faults()[2], faults()[5], faults()[6], nops(4096)}
	for _, code := range codes {
		b := laid(code, []byte("data"))
		for n := range 12 {
			checkNoImage(t, "few bytes", b[:n], 2)
		}
		for at := range len(b) {
			want := api.Errno(3)
			if at < 4 {
				want = 2
			}
			checkNoImage(t, "a byte changed", put(b, at, []byte{b[at] + 1}), want)
		}
		for n := 12; n < len(b); n += 1 + n/50 {
			checkNoImage(t, "a part", b[:n], 3)
			checkNoImage(t, "a part with its sum", summed(b[:n-4]), 4)
		}
		checkNoImage(t, "another beginning, another sum", put(b, 3, []byte("0")), 2)
		checkNoImage(t, "another beginning with its sum", summed(joined([]byte("V320"), b[4:len(b)-4])), 2)
		checkNoImage(t, "a byte more", joined(b, []byte{0}), 3)
		checkNoImage(t, "a byte more with its sum", summed(joined(b[:len(b)-4], []byte{0})), 4)
	}
	for _, n := range []int{0, 1, 31, 33, 4097, 4128} {
		checkNoImage(t, "code of another length", laid(halts(n), nil), 4)
	}
	checkNoImage(t, "too much data", laid(halts(32), halts(4097)), 4)
	checkNoImage(t, "too much data, and unsafe code", laid(faults()[5], halts(4097)), 4)
	checkNoImage(t, "nothing", nil, 2)
	checkNoImage(t, "no bytes", []byte{}, 2)
	checkNoImage(t, "code alone", safe(2), 2)
}

// 10.1, what is handed in and out

// TestCodeKeepsNothing holds that code stays, spare room included, and that each call looks at it anew.
func TestCodeKeepsNothing(t *testing.T) {
	code := safe(3)
	all := joined(row(16, 3), code, row(64, 4))
	part := all[16 : 16+len(code)]
	for want, b := range faults() {
		was := bytes.Clone(all)
		checkCode(t, "a part", part, 0)
		checkCode(t, "another length", part[:33], 4)
		if !bytes.Equal(all, was) {
			t.Errorf("the code became another one")
		}
		copy(part[32:], b)
		was = bytes.Clone(all)
		checkCode(t, "a part that was changed", part, want)
		if !bytes.Equal(all, was) {
			t.Errorf("code that is refused became another one")
		}
		copy(part, code)
	}
}

// TestImageKeepsNothing holds that bytes stay, spare room included, and that what is answered is memory of its own.
func TestImageKeepsNothing(t *testing.T) {
	code, data := safe(2), row(40, 9)
	b := laid(code, data)
	all := joined(row(16, 3), b, row(64, 4))
	part := all[16 : 16+len(b)]
	was := bytes.Clone(all)
	one, _ := Image(part)
	two, _ := Image(part)
	checkNoImage(t, "a byte less", part[:len(part)-1], 3)
	if !bytes.Equal(all, was) {
		t.Errorf("the bytes became others")
	}
	clear(all)
	for _, x := range []image.Image{one, two} {
		if !bytes.Equal(x.Code, code) || !bytes.Equal(x.Data, data) {
			t.Errorf("what was answered is another one once the bytes are cleared: %v", x)
		}
	}
	copy(all, was)
	fill(one.Code)
	if !bytes.Equal(one.Data, data) {
		t.Errorf("code and data share memory")
	}
	fill(one.Data)
	if !bytes.Equal(two.Code, code) || !bytes.Equal(two.Data, data) || !bytes.Equal(all, was) {
		t.Errorf("an answer shares memory with another one, or with the bytes: %v", two)
	}
	checkImage(t, "once more", part, code, data)
}

// fill makes all bytes 77, spare room included.
func fill(b []byte) {
	b = b[:cap(b)]
	for i := range b {
		b[i] = 77
	}
}

func ExampleCode() {
	fmt.Println(Code(make([]byte, 32)))
	// Output: 0
}
