package rule

import (
	"bytes"
	"fmt"
	"maps"
	"slices"
	"testing"

	"corral/api"
)

// 8.1, Keeps, and 8.2: checkKeeps and checkError ask Seconds, too

// eachPair answers the bytes of all pairs.
func eachPair() [][]byte {
	var l [][]byte
	for r := range 8 {
		for other := range 8 {
			l = append(l, joined(maskD(r), load(other, r)), joined(maskD(r), store(r, other)))
		}
		l = append(l, joined(maskC(r), jr(r)))
	}
	return l
}

// faults answers bytes of which the last instruction is one that breaks the rules, wherever they stand in a bundle.
func faults() map[string][]byte {
	return map[string][]byte{
		"a Load alone":                  load(1, 2),
		"a Store alone":                 store(2, 1),
		"a Jr alone":                    jr(2),
		"a Load of noughts":             load(0, 0),
		"a Store of noughts":            store(0, 0),
		"a Jr of nought":                jr(0),
		"a Load by another register":    joined(maskD(1), load(1, 2)),
		"a Store by another register":   joined(maskD(1), store(2, 1)),
		"a Jr by another register":      joined(maskC(1), jr(2)),
		"a Load behind MaskC":           joined(maskC(2), load(1, 2)),
		"a Store behind MaskC":          joined(maskC(2), store(2, 1)),
		"a Jr behind MaskD":             joined(maskD(2), jr(2)),
		"a Load behind a Nop":           joined(maskD(2), nops(1), load(1, 2)),
		"a Store behind a Nop":          joined(maskD(2), nops(1), store(2, 1)),
		"a Jr behind a Nop":             joined(maskC(2), nops(1), jr(2)),
		"a Load behind a Halt":          joined(maskD(2), halts(1), load(1, 2)),
		"a Load behind another mask":    joined(maskD(2), maskD(3), load(1, 2)),
		"a Store behind another mask":   joined(maskD(2), maskC(2), store(2, 1)),
		"a Jr behind another mask":      joined(maskC(2), maskC(3), jr(2)),
		"a second Load by it":           joined(maskD(2), load(1, 2), load(1, 2)),
		"a Store behind a Load by it":   joined(maskD(2), load(1, 2), store(2, 1)),
		"a second Store by it":          joined(maskD(2), store(2, 1), store(2, 1)),
		"a second Jr by it":             joined(maskC(2), jr(2), jr(2)),
		"a mask behind its Load":        joined(load(1, 2), maskD(2)),
		"a mask behind its Jr":          joined(jr(2), maskC(2)),
		"a number that looks as a mask": joined(movi(1, 0, 0, 17, 0x20), load(1, 2)),
		"a Jr behind such a number":     joined(movi(1, 0, 0, 18, 0x20), jr(2)),
		"a Gate with 5":                 gate(5),
		"a Gate with 255":               gate(255),
		"a Gate with 128":               gate(128),
		"a Gate with 5 behind a pair":   joined(maskD(2), load(1, 2), gate(5)),
		"a Gate with 5 between pairs":   joined(maskD(2), load(1, 2), gate(5), maskC(2), jr(2)),
		"a Gate with 5 behind a mask":   joined(maskD(2), gate(5)),
	}
}

// TestFaults has each fault at each place of the only bundle, of the first, of one between and of the last one.
func TestFaults(t *testing.T) {
	for name, b := range faults() {
		for at := 0; at+len(b) <= 32; at++ {
			for _, around := range arounds[:5] {
				checkError(t, name, among(around[0], bundle(at, b), around[1]), 5)
			}
		}
		for _, around := range arounds {
			checkError(t, name, among(around[0], bundle(0, b), around[1]), 5)
			checkError(t, name, among(around[0], bundle(32-len(b), b), around[1]), 5)
		}
	}
}

// TestFaultAmongPairs has a pair with another mask among 4096 bytes of pairs: the first one, some between, the last one.
func TestFaultAmongPairs(t *testing.T) {
	pairs := bytes.Repeat(joined(maskD(2), load(1, 2)), 1024)
	for at := 0; at < 4096; at += 12 {
		code := bytes.Clone(pairs)
		code[at+1] = 0x30
		checkError(t, "another mask", code, 5)
	}
}

// TestOtherRegisters has masks of each other register than that which is asked for.
func TestOtherRegisters(t *testing.T) {
	for r := range 8 {
		for s := range 8 {
			for other := range 8 {
				checkSame(t, "a Load", bundle(5, joined(maskD(r), load(other, s))))
				checkSame(t, "a Store", bundle(5, joined(maskD(r), store(s, other))))
			}
			checkSame(t, "a Jr", bundle(5, joined(maskC(r), jr(s))))
			if r == s {
				continue
			}
			checkError(t, "a Load by B", bundle(28, joined(maskD(r), load(r, s))), 5)
			checkError(t, "a Store by A", bundle(28, joined(maskD(r), store(s, r))), 5)
			checkError(t, "a Jr by another register", bundle(28, joined(maskC(r), jr(s))), 5)
		}
	}
}

// TestPartedByABundle has pairs whose second one is the first one of the bundle behind: of the second one, one between, and the last one.
func TestPartedByABundle(t *testing.T) {
	for _, pair := range eachPair() {
		for _, around := range [][2]int{{0, 0}, {0, 1}, {1, 1}, {1, 0}, {5, 0}} {
			two := joined(nops(30), pair, nops(30))
			checkError(t, "parted", among(around[0], two, around[1]), 5)
			two = joined(halts(28), pair[:2], pair[:2], pair[2:], halts(30))
			checkError(t, "parted, two masks ahead", among(around[0], two, around[1]), 5)
			two = joined(nops(30), pair[:2], pair, nops(28))
			checkKeeps(t, "a mask ahead of the bundle too", joined(nops(32*around[0]), two, nops(32*around[1])), 32*around[0]+34)
		}
	}
}

// TestFirstOfAll has a Load, a Store and a Jr as code's first instruction, with their mask at the code's end, or in memory just ahead of the code.
func TestFirstOfAll(t *testing.T) {
	for _, pair := range eachPair() {
		checkError(t, "the first of all", joined(pair[2:], nops(28), pair[:2]), 5)
		checkError(t, "the first of all", joined(pair[2:], nops(62)), 5)
		all := joined(nops(30), pair, nops(30))
		checkError(t, "the mask ahead of the code", all[32:], 5)
		checkKeeps(t, "the second one behind the code", all[:32])
	}
}

// TestEachPair has each pair at each place of a bundle, the last bytes too: the only bundle, the first, one between, the last.
func TestEachPair(t *testing.T) {
	for _, pair := range eachPair() {
		for at := 0; at <= 28; at++ {
			for _, around := range [][2]int{{0, 0}, {0, 1}, {1, 1}, {1, 0}} {
				code := joined(nops(32*around[0]), bundle(at, pair), nops(32*around[1]))
				checkKeeps(t, "a pair", code, 32*around[0]+at+2)
			}
		}
	}
	for _, around := range arounds {
		code := joined(nops(32*around[0]), bundle(28, joined(maskC(5), jr(5))), nops(32*around[1]))
		checkKeeps(t, "a bundle's last two", code, 32*around[0]+30)
	}
}

func TestTwoPairs(t *testing.T) {
	for _, one := range eachPair() {
		for _, two := range eachPair() {
			checkKeeps(t, "two pairs", joined(one, two, nops(24)), 2, 6)
			checkKeeps(t, "two pairs at the end", joined(nops(24), one, two), 26, 30)
			checkKeeps(t, "two pairs, a bundle each", joined(nops(28), one, two, nops(28)), 30, 34)
			checkError(t, "two masks, two behind", joined(one[:2], two[:2], one[2:], two[2:], nops(24)), 5)
			checkError(t, "a pair, and a second one alone", joined(one, two[2:], nops(26)), 5)
		}
	}
}

// TestMaskAlone has masks without a second one: at each place, and many of them.
func TestMaskAlone(t *testing.T) {
	for r := range 8 {
		for _, mask := range [][]byte{maskD(r), maskC(r)} {
			for at := 0; at <= 30; at++ {
				for _, around := range arounds[:4] {
					checkKeeps(t, "a mask", joined(nops(32*around[0]), bundle(at, mask), nops(32*around[1])))
				}
			}
			checkKeeps(t, "masks", bytes.Repeat(mask, 2048))
			checkKeeps(t, "a mask and others", bundle(0, joined(mask, halts(1), mask, gate(4), mask, movi(1, 15, 0, 16, 0), mask)))
		}
		checkKeeps(t, "the last of some masks", bundle(3, joined(maskD(r), maskC(r), maskD(r), load(1, r))), 9)
		checkKeeps(t, "a mask behind a pair", bundle(3, joined(maskC(r), jr(r), maskC(r))), 5)
	}
}

// checkGate holds what is told of a Gate alone at a place of a bundle, and among pairs, with so many bundles around.
func checkGate(t *testing.T, n, at int, around [2]int) {
	t.Helper()
	alone := joined(nops(32*around[0]), bundle(at, gate(n)), nops(32*around[1]))
	pairs := joined(nops(32*around[0]), joined(maskD(2), store(2, 1), gate(n), maskC(3), jr(3), gate(n), nops(20)), nops(32*around[1]))
	if n > 4 {
		checkError(t, "a Gate", alone, 5)
		checkError(t, "a Gate among pairs", pairs, 5)
		return
	}
	checkKeeps(t, "a Gate", alone)
	checkKeeps(t, "a Gate among pairs", pairs, 32*around[0]+2, 32*around[0]+8)
}

// TestGates has Gates with each number: in the only bundle, the first, one between and the last one.
func TestGates(t *testing.T) {
	for n := range 256 {
		for _, around := range arounds[:4] {
			for at := 0; at <= 30; at += 15 {
				checkGate(t, n, at, around)
			}
		}
	}
	for _, n := range []int{0, 4, 5, 255} {
		for _, around := range arounds {
			for _, at := range []int{0, 1, 29, 30} {
				checkGate(t, n, at, around)
			}
		}
		checkSame(t, "Gates", bytes.Repeat(gate(n), 2048))
	}
}

// TestLooksAlike has numbers whose bytes look as what would break the rules, or as a pair: they are none.
func TestLooksAlike(t *testing.T) {
	for _, b := range [][]byte{{15, 0, 16, 0}, {21, 0, 22, 5}, {22, 255, 22, 5}, {17, 0, 15, 0}, {18, 0, 21, 0}} {
		for at := 0; at <= 26; at++ {
			for _, around := range arounds[:4] {
				for _, x := range [][]byte{movi(2, b...), joined([]byte{20, 2}, b), joined([]byte{19}, b)} {
					checkKeeps(t, "a number", joined(nops(32*around[0]), bundle(at, x), nops(32*around[1])))
				}
			}
		}
	}
	checkKeeps(t, "a mask between", bundle(0, joined(movi(1, 0, 0, 17, 0x20), maskD(3), load(1, 3))), 8)
}

// TestMostPairs has 4096 bytes of pairs.
func TestMostPairs(t *testing.T) {
	var places []int
	for at := 2; at < 4096; at += 4 {
		places = append(places, at)
	}
	for _, pair := range eachPair() {
		checkKeeps(t, "4096 bytes of pairs", bytes.Repeat(pair, 1024), places...)
		checkError(t, "4128 bytes of pairs", bytes.Repeat(pair, 1032), 4)
	}
	mixed := joined(eachPair()...) // 544 bytes, 17 bundles
	checkKeeps(t, "pairs of all kinds", bytes.Repeat(mixed, 7), places[:952]...)
}

// TestLengths has lengths that chapter 7 refuses: nothing else is looked at, neither what is no instruction, nor what breaks the rules.
func TestLengths(t *testing.T) {
	pairs := bytes.Repeat(joined(maskD(2), load(1, 2)), 1100)
	loads := bytes.Repeat(load(1, 2), 2200)
	none := bytes.Repeat([]byte{255}, 4400)
	for n := range 4400 {
		if n >= 32 && n <= 4096 && n%32 == 0 {
			checkError(t, "Loads", loads[:n], 5)
			checkError(t, "no instructions", none[:n], 2)
			continue
		}
		checkError(t, "pairs", pairs[:n], 4)
		checkError(t, "Loads", loads[:n], 4)
		checkError(t, "no instructions", none[:n], 4)
	}
	checkError(t, "nil", nil, 4)
	checkError(t, "no bytes", []byte{}, 4)
	checkError(t, "no bytes of some", pairs[:0], 4)
	checkError(t, "a byte", []byte{1}, 4)
	for _, n := range []int{4096 + 32, 8192, 65536, 65536 + 32, 1 << 20} {
		checkError(t, "many Nops", nops(n), 4)
		checkError(t, "many Loads", bytes.Repeat(load(1, 2), n/2), 4)
	}
}

// TestForms has what is no instruction, ahead of what breaks the rules and behind it: it is told alone.
func TestForms(t *testing.T) {
	wrong := [][]byte{{24}, {255}, {15, 0x80}, {15, 0x08}, {16, 0x18}, {17, 0x21}, {17, 0x80}, {18, 0x01}, {21, 0x22}, {1, 8, 0, 0, 0, 0}}
	for _, w := range wrong {
		for name, b := range faults() {
			fault := bundle(0, b)
			for _, code := range [][]byte{
				joined(bundle(0, w), fault), joined(fault, bundle(0, w)), joined(fault, nops(32), bundle(32-len(w), w)), joined(bundle(32-len(w), w), nops(32), fault),
				bundle(0, joined(b, w)), bundle(0, joined(w, b)), joined(fault, nops(4032), bundle(32-len(w), w)),
			} {
				checkError(t, name+" and what is none", code, 2)
			}
		}
		checkError(t, "none", bundle(4, w), 2)
	}
	for _, cut := range [][]byte{load(1, 2), maskD(2), gate(5), jr(2)} {
		checkError(t, "reaches into the next bundle", joined(nops(31), cut, nops(31)), 2)
		checkError(t, "reaches beyond", joined(nops(31), cut)[:32], 2)
		checkError(t, "reaches beyond, behind a Load", joined(load(1, 2), nops(29), cut, nops(31)), 2)
	}
}

// TestRows has bytes by a rule: mostly pairs and others that keep the rules, with a byte changed or not.
func TestRows(t *testing.T) {
	pairs := eachPair()
	var told [6]int
	for i := range 6000 {
		r := row(200, uint32(i))
		var code []byte
		for k := 0; k < 100; k += 2 {
			b := pairs[int(r[k])%len(pairs)]
			switch r[k+1] % 8 {
			case 0:
				b = gate(int(r[k]) % 5)
			case 1:
				b = movi(int(r[k])%8, 1, 2, 3, 4)
			case 2:
				b = nops(1)
			case 3:
				b = b[:2]
			}
			if len(code)%32+len(b) > 32 {
				code = append(code, nops(32-len(code)%32)...)
			}
			code = append(code, b...)
		}
		code = append(code, nops((32-len(code)%32)%32)...)
		for range r[120] % 3 {
			at := (int(r[121])*256 + int(r[122])) % len(code)
			code[at] = r[123] % 128
		}
		checkSame(t, "a row", code)
		_, e := plainSeconds(code)
		told[e]++
		small := row(64, uint32(i))
		for k := range small {
			small[k] %= 24
		}
		checkSame(t, "small numbers", small)
		checkSame(t, "any bytes", row(32, uint32(i)))
	}
	if told[0] < 1000 || told[2] < 100 || told[5] < 100 {
		t.Errorf("of the rows' errors there are %v: too few to tell much", told)
	}
}

// TestKeepsNothing holds that code stays, spare room included, and that what is answered is memory of its own.
func TestKeepsNothing(t *testing.T) {
	code := joined(maskD(2), load(1, 2), nops(28), maskC(3), jr(3), gate(4), nops(26))
	all := joined(row(16, 3), code, row(64, 4))
	was := bytes.Clone(all)
	part := all[16 : 16+len(code)]
	one, _ := Seconds(part)
	two, _ := Seconds(part)
	checkKeeps(t, "a part", part, 2, 34)
	if !bytes.Equal(all, was) {
		t.Errorf("the code became another one")
	}
	clear(all)
	if !holdsJust(one, []int{2, 34}) || !holdsJust(two, []int{2, 34}) {
		t.Errorf("what was answered is another one once the code is cleared: %v, %v", one, two)
	}
	checkKeeps(t, "Halts where the code was", part)
	copy(all, was)
	clear(one)
	one[7] = true
	two[2] = false
	checkKeeps(t, "the code, once more", part, 2, 34)
	if !maps.Equal(two, map[int]bool{2: false, 34: true}) {
		t.Errorf("an answer shares memory with another one: %v", two)
	}
	for _, b := range []byte{0x30, 99} {
		part[1] = b
		was = bytes.Clone(all)
		checkError(t, "refused", part, map[byte]api.Errno{0x30: 5, 99: 2}[b])
		checkError(t, "another length", part[:33], 4)
		if !bytes.Equal(all, was) {
			t.Errorf("code that is refused became another one")
		}
	}
}

// TestEmptyIsApart holds that an answer without places is memory of its own, too.
func TestEmptyIsApart(t *testing.T) {
	one, e := Seconds(nops(32))
	if e != 0 || len(one) != 0 {
		t.Fatalf("Seconds of Nops = %v, %d", one, e)
	}
	if one != nil {
		one[5] = true
	}
	checkKeeps(t, "Nops", nops(32))
	checkKeeps(t, "a pair", bundle(0, joined(maskD(2), load(1, 2))), 2)
	checkError(t, "a Load", bundle(0, load(1, 2)), 5)
	if refused, _ := Seconds(bundle(0, load(1, 2))); len(refused) != 0 {
		t.Errorf("beside an error: %v", refused)
	}
}

// 8.3

// TestWithoutThem has code without Load, Store, Jr and Gate, of all lengths, with masks everywhere: it keeps the rules, and has no second ones.
func TestWithoutThem(t *testing.T) {
	others := [][]byte{
		{0}, {1, 7, 15, 0, 16, 0}, {1, 0, 22, 5, 21, 0}, {2, 0x12}, {3, 0x77}, {4, 0}, {5, 0x01}, {6, 0x10}, {7, 0x22}, {8, 0x33}, {9, 0x44}, {10, 0x55}, {11, 0x66}, {12, 0x70}, {13, 0x07}, {14, 0x11},
		{17, 0}, {17, 0x70}, {18, 0}, {18, 0x70}, {17, 0x20}, {18, 0x20}, {19, 22, 255, 15, 0}, {20, 7, 15, 0, 22, 9}, {23},
	}
	for _, b := range others {
		each := bytes.Repeat(b, 32/len(b))
		each = append(each, nops(32-len(each))...)
		for n := 1; n <= 128; n += 1 + n/3 {
			checkKeeps(t, "the same one", bytes.Repeat(each, n))
		}
	}
	for i := range 1500 {
		r := row(700, uint32(i))
		var code []byte
		for _, x := range r[:1+i%700] {
			b := others[int(x)%len(others)]
			if len(code)%32+len(b) > 32 {
				code = append(code, nops(32-len(code)%32)...)
			}
			code = append(code, b...)
		}
		code = append(code, nops((32-len(code)%32)%32)...)
		checkKeeps(t, "others", code[:min(len(code), 4096)])
	}
	for n := 32; n <= 4096; n += 32 {
		checkKeeps(t, "Halts", halts(n))
		checkKeeps(t, "Nops", nops(n))
	}
}

func ExampleKeeps() {
	fmt.Println(Keeps(slices.Concat([]byte{15, 0x12}, nops(30))))
	// Output: 5
}
