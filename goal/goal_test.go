package goal

import (
	"bytes"
	"fmt"
	"slices"
	"testing"

	"corral/api"
)

// 9.1, Goals, and 9.2: checkGoals and checkError ask both

// far are goals ahead of all code and behind it, such as a jump in the first bundles can have.
var far = []int{-1, -2, -5, -6, -31, -32, -33, -64, -4096, -65536, -1 << 30, -1<<31 + 200, 4096, 4097, 4128, 8192, 65536, 1 << 24, 1 << 30, 1<<31 - 1}

// landmark is a bundle with room for a jump at its beginning, and with some of everything behind.
func landmark() []byte {
	return joined(nops(6), maskD(1), load(2, 1), movi(3, 0x13131313), maskC(2), jr(2), maskD(3), store(3, 1), gate(4), maskD(5), []byte{23, 0}, []byte{3, 0x12})
}

// mayBeAt tells whether a jump may go to a place of code of n landmarks, a jump of so many bytes at the beginning of one of them.
func mayBeAt(goal, n, jump, bytes int) bool {
	if goal < 0 || goal >= 32*n {
		return false
	}
	if goal > jump && goal < jump+bytes {
		return false
	}
	if goal%32 < 6 {
		return true
	}
	return slices.Contains([]int{6, 10, 16, 20, 24, 26, 28, 29, 30}, goal%32)
}

// TestEachGoal has a jump in the first, the middle and the last bundle, by which all places of the code are gone to, and such as are ahead of it and behind.
func TestEachGoal(t *testing.T) {
	for _, n := range []int{1, 2, 3} {
		code := bytes.Repeat(landmark(), n)
		for jump := 0; jump < len(code); jump += 32 {
			for a := -1; a < 8; a += 4 {
				size := len(jumpTo(a, 0, 0))
				for goal := -70; goal < len(code)+70; goal++ {
					want := api.Errno(6)
					if mayBeAt(goal, n, jump, size) {
						want = 0
					}
					checkGoals(t, "one jump", put(code, jump, jumpTo(a, jump, goal)), want, goal)
				}
				for _, goal := range far {
					checkGoals(t, "one jump, far away", put(code, jump, jumpTo(a, jump, goal)), 6, goal)
				}
			}
		}
	}
}

// TestWritten has code and goals that are written out.
func TestWritten(t *testing.T) {
	checkGoals(t, "a Jmp by -5 at 0", bundle(0, []byte{19, 251, 255, 255, 255}), 0, 0)
	checkGoals(t, "a Jz by -6 at 0", bundle(0, []byte{20, 7, 250, 255, 255, 255}), 0, 0)
	checkGoals(t, "a Jmp by 0", bundle(0, []byte{19, 0, 0, 0, 0}), 0, 5)
	checkGoals(t, "a Jz by 0", bundle(0, []byte{20, 0, 0, 0, 0, 0}), 0, 6)
	checkGoals(t, "a Jmp by 26, the last byte", bundle(0, []byte{19, 26, 0, 0, 0}), 0, 31)
	checkGoals(t, "a Jmp by 27, the code's end", bundle(0, []byte{19, 27, 0, 0, 0}), 6, 32)
	checkGoals(t, "a Jmp by 28, one behind it", bundle(0, []byte{19, 28, 0, 0, 0}), 6, 33)
	checkGoals(t, "a Jmp by -6, to -1", bundle(0, []byte{19, 250, 255, 255, 255}), 6, -1)
	checkGoals(t, "a Jmp by -4, into itself", bundle(0, []byte{19, 252, 255, 255, 255}), 6, 1)
	checkGoals(t, "a Jmp by -2^31", bundle(0, []byte{19, 0, 0, 0, 128}), 6, -1<<31+5)
	checkGoals(t, "a Jmp by 2^31-1", bundle(0, []byte{19, 255, 255, 255, 127}), 6, 1<<31+4)
	checkGoals(t, "a Jmp by 256", joined(bundle(0, []byte{19, 0, 1, 0, 0}), nops(288)), 0, 261)
	checkGoals(t, "a Jmp by 2^16+1", joined(bundle(0, []byte{19, 1, 0, 1, 0}), nops(288)), 6, 65536+6)
	checkGoals(t, "a Jmp at the code's end by 0", bundle(27, []byte{19, 0, 0, 0, 0}), 6, 32)
	checkGoals(t, "a Jz at the code's end by 0", bundle(26, []byte{20, 0, 0, 0, 0, 0}), 6, 32)
	checkGoals(t, "a Jmp at the code's end by -32", bundle(27, []byte{19, 224, 255, 255, 255}), 0, 0)
}

// TestIntoPairs has jumps to the first one and to the second one of each pair, from ahead of it and from behind.
func TestIntoPairs(t *testing.T) {
	for r := range 8 {
		for _, pair := range [][]byte{joined(maskD(r), load(7-r, r)), joined(maskD(r), store(r, 7-r)), joined(maskD(r), load(r, r)), joined(maskD(r), store(r, r)), joined(maskC(r), jr(r))} {
			for _, c := range []struct{ jump, pair, bundles int }{{0, 6, 1}, {10, 0, 1}, {20, 16, 1}, {0, 28, 1}, {0, 32, 2}, {0, 60, 2}, {32, 28, 2}, {58, 0, 2}, {26, 4092, 128}, {4090, 28, 128}} {
				if c.bundles > 2 && r != 3 {
					continue
				}
				code := put(nops(32*c.bundles), c.pair, pair)
				for a := -1; a < 8; a += 8 {
					checkGoals(t, "the first one", put(code, c.jump, jumpTo(a, c.jump, c.pair)), 0, c.pair)
					checkGoals(t, "the second one", put(code, c.jump, jumpTo(a, c.jump, c.pair+2)), 6, c.pair+2)
					checkGoals(t, "within the first one", put(code, c.jump, jumpTo(a, c.jump, c.pair+1)), 6, c.pair+1)
					checkGoals(t, "within the second one", put(code, c.jump, jumpTo(a, c.jump, c.pair+3)), 6, c.pair+3)
				}
			}
		}
	}
}

// TestBesidePairs has masks that are no pair's: a jump may go to them, and to what stands behind them.
func TestBesidePairs(t *testing.T) {
	for _, b := range [][]byte{maskD(2), maskC(2), movi(2, 0), {2, 0x22}, gate(2), {0}, jmp(0), jz(2, 0)} {
		for _, mask := range [][]byte{maskD(2), maskC(2)} {
			code := joined(nops(6), mask, b, nops(24-len(b)), nops(32))
			told := goalsOf(code)
			checkGoals(t, "a mask", put(code, 0, jmp(1)), 0, append([]int{6}, told...)...)
			checkGoals(t, "behind a mask", put(code, 0, jmp(3)), 0, append([]int{8}, told...)...)
		}
	}
	two := joined(jmp(3), nops(1), maskD(2), maskD(2), load(1, 2), nops(20))
	checkGoals(t, "the second mask", two, 0, 8)
	checkGoals(t, "what the second mask is for", put(two, 0, jmp(5)), 6, 10)
	next := joined(jmp(27), nops(25), maskD(2), maskD(2), load(1, 2), nops(28))
	checkGoals(t, "a bundle's first mask, behind a mask", next, 0, 32)
	checkGoals(t, "its second one", put(next, 0, jmp(29)), 6, 34)
}

// goalsOf answers the goals by the plain way alone.
func goalsOf(code []byte) []int {
	goals, _ := plainLook(code)
	return goals
}

// TestNops has jumps to each Nop that fills a bundle: behind the last instruction, ahead of one that needs more room, and a whole bundle of them.
func TestNops(t *testing.T) {
	code := joined(nops(6), movi(1, 1), movi(2, 2), movi(3, 3), nops(8), movi(4, 4), bytes.Repeat([]byte{3, 0x12}, 11), nops(4), nops(32))
	for a := -1; a < 8; a += 8 {
		for _, span := range [][2]int{{24, 32}, {60, 64}, {64, 96}} {
			for goal := span[0]; goal < span[1]; goal++ {
				checkGoals(t, "a Nop", put(code, 0, jumpTo(a, 0, goal)), 0, goal)
			}
		}
	}
}

// TestNoJumps has code without jumps, with bytes within instructions that look as jumps: there are no goals, and that may be.
func TestNoJumps(t *testing.T) {
	for n := 32; n <= 4096; n += 32 * (1 + n/256) {
		for _, b := range []byte{0, 23} {
			checkGoals(t, "the same one", bytes.Repeat([]byte{b}, n), 0)
		}
	}
	like := joined(movi(1, 0x13131313), movi(2, 0x14141414), gate(4), maskD(1), load(4, 1), []byte{3, 0x13, 4, 0x14}, nops(10))
	for _, n := range []int{1, 2, 128} {
		checkGoals(t, "like jumps", bytes.Repeat(like, n), 0)
		checkGoals(t, "pairs", bytes.Repeat(joined(maskD(1), load(2, 1), maskC(1), jr(1)), 4*n), 0)
	}
}

// TestBeginsAnew has a jump whose number has jumps' bytes in it: it is one jump alone.
func TestBeginsAnew(t *testing.T) {
	for _, n := range []int{0x13131313, 0x14141414, 0x00001300, 0x14000000, -0x13131314} {
		checkGoals(t, "a Jmp", bundle(3, jmp(n)), 6, 8+n)
		checkGoals(t, "a Jz", bundle(3, jz(4, n)), 6, 9+n)
	}
}

// TestOrder has jumps in some bundles, their goals in the order of the jumps: falling, rising, alike ones each told.
func TestOrder(t *testing.T) {
	code := nops(160)
	places := []int{0, 6, 27, 40, 64, 70, 76, 90, 128, 134, 140, 154}
	for _, goals := range [][]int{
		{153, 150, 127, 126, 112, 100, 63, 62, 56, 50, 39, 33},
		{0, 12, 13, 27, 33, 40, 50, 64, 96, 128, 134, 154},
		{32, 32, 32, 32, 32, 32, 32, 32, 32, 32, 32, 32},
		{100, 33, 100, 33, 100, 33, 100, 33, 154, 154, 0, 0},
		{0, 6, 27, 40, 64, 70, 76, 90, 128, 134, 140, 154},
	} {
		for by := range 4 {
			all := code
			for i, at := range places {
				a := -1
				if (i+by)%2 == 0 && at%32 < 27 {
					a = i % 8
				}
				all = put(all, at, jumpTo(a, at, goals[i]))
			}
			checkGoals(t, "some jumps", all, 0, goals...)
			checkWrongAmong(t, all, places, goals)
		}
	}
}

// checkWrongAmong holds of jumps at some places, to goals that may be, that each one of them is told when it alone may not be: the first, those between, the last, with all others in order.
func checkWrongAmong(t *testing.T, code []byte, places, goals []int) {
	t.Helper()
	for i, at := range places {
		for _, wrong := range []int{-1, len(code), at + 1, at + 4, 1 << 30, -1 << 30} {
			b := jumpTo(-1, at, wrong)
			if code[at] == 20 {
				b = jumpTo(int(code[at+1]), at, wrong)
			}
			told := slices.Clone(goals)
			told[i] = wrong
			checkGoals(t, "one that may not be", put(code, at, b), 6, told...)
		}
	}
}

// TestMostJumps has 4096 bytes of jumps, each to the jump at the other end, and one that may not be among them.
func TestMostJumps(t *testing.T) {
	for a := -1; a < 8; a += 8 {
		size := len(jumpTo(a, 0, 0))
		var places []int
		for at := 0; at < 4096; at += 32 {
			for i := range 32 / size {
				places = append(places, at+i*size)
			}
		}
		if len(places) != 128*(32/size) {
			t.Fatalf("%d places", len(places))
		}
		goals := slices.Clone(places)
		slices.Reverse(goals)
		code := nops(4096)
		for i, at := range places {
			copy(code[at:], jumpTo(a, at, goals[i]))
		}
		checkGoals(t, "most jumps", code, 0, goals...)
		last := len(places) - 1
		for _, i := range []int{0, 1, 6, last / 2, last/2 + 1, last - 6, last - 1, last} {
			for _, wrong := range []int{-1, 1, 4096, 4091} {
				told := slices.Clone(goals)
				told[i] = wrong
				checkGoals(t, "one that may not be among most", put(code, places[i], jumpTo(a, places[i], wrong)), 6, told...)
			}
		}
		checkError(t, "a bundle more", joined(code, nops(32)), 4)
	}
}

// 9.1 and 9.2, errors

// badJumps answers code of so many bundles of jumps that may not be.
func badJumps(n int) []byte { return bytes.Repeat(bundle(0, joined(jmp(-9), jz(2, 1<<20))), n) }

// TestLengths has lengths that chapter 7 refuses: nothing else is looked at.
func TestLengths(t *testing.T) {
	jumps, good := badJumps(140), bytes.Repeat(bundle(0, jmp(0)), 140)
	loads, none := bytes.Repeat(load(1, 2), 2240), bytes.Repeat([]byte{255}, 4480)
	for n := range 4400 {
		if n >= 32 && n <= 4096 && n%32 == 0 {
			checkError(t, "no instructions", none[:n], 2)
			checkError(t, "Loads", loads[:n], 5)
			continue
		}
		for _, code := range [][]byte{jumps, good, loads, none} {
			checkError(t, "another length", code[:n], 4)
		}
	}
	for _, code := range [][]byte{nil, {}, jumps[:0], {19}, {24}} {
		checkError(t, "few bytes", code, 4)
	}
	for _, n := range []int{129, 256, 2048, 2049, 1 << 15} {
		checkError(t, "many bundles", bytes.Repeat(good[:32], n), 4)
		checkError(t, "many bundles of wrong goals", badJumps(n), 4)
	}
}

// wrongForms answers bytes that are no instruction, each fewer than a bundle.
func wrongForms() [][]byte {
	return [][]byte{{24}, {255}, {15, 0x80}, {15, 0x08}, {17, 0x21}, {18, 0x01}, {21, 0x22}, {1, 8, 0, 0, 0, 0}, {20, 8, 0, 0, 0, 0}, {20, 0x10, 0, 0, 0, 0}, {20, 255, 0, 0, 0, 0}}
}

// wrongRules answers bytes that break chapter 8's rules wherever they stand in a bundle.
func wrongRules() [][]byte {
	return [][]byte{
		load(1, 2), store(2, 1), jr(2), load(0, 0), jr(0), joined(maskD(1), load(1, 2)), joined(maskD(1), store(2, 1)), joined(maskC(1), jr(2)), joined(maskC(2), load(1, 2)), joined(maskD(2), jr(2)),
		joined(maskD(2), nops(1), load(1, 2)), joined(maskD(2), load(1, 2), load(1, 2)), joined(maskD(2), jmp(0), load(1, 2)), joined(maskC(2), jz(1, 0), jr(2)), gate(5), gate(255), joined(maskD(2), gate(6)),
	}
}

// TestForms has what is no instruction ahead of, among and behind what breaks the rules, and goals that may not be.
func TestForms(t *testing.T) {
	for _, w := range wrongForms() {
		for _, r := range wrongRules() {
			for _, code := range [][]byte{
				bundle(0, joined(w, r, jmp(-9))), bundle(0, joined(jmp(-9), r, w)), bundle(32-len(w), w),
				joined(badJumps(1), bundle(0, r), bundle(0, w)), joined(bundle(0, w), bundle(9, r), badJumps(2)), joined(bundle(0, r), badJumps(1), bundle(32-len(w), w)),
			} {
				checkError(t, "what is no instruction", code, 2)
			}
		}
	}
	for _, jump := range [][]byte{jmp(-9), jmp(0), jmp(-5), jz(1, -9), jz(1, 0), jz(1, -6)} {
		for by := 1; by < len(jump); by++ {
			two := joined(nops(32-len(jump)+by), jump, nops(32-by))
			checkError(t, "a jump that reaches into the next bundle", two, 2)
			checkError(t, "a jump that reaches beyond the code", two[:32], 2)
			checkError(t, "such a jump behind others", joined(badJumps(1), two), 2)
		}
	}
}

// TestRules has code that breaks the rules ahead of, among and behind jumps that may be, and such as may not.
func TestRules(t *testing.T) {
	for _, r := range wrongRules() {
		for at := 0; at+len(r) <= 32; at++ {
			checkError(t, "the rules, no jumps", bundle(at, r), 5)
			checkError(t, "the rules, behind", joined(badJumps(1), bundle(at, r)), 5)
			checkError(t, "the rules, ahead", joined(bundle(at, r), badJumps(1)), 5)
			checkError(t, "the rules, among", joined(badJumps(1), bundle(at, r), badJumps(2)), 5)
			checkError(t, "the rules, behind goals that may be", joined(bundle(0, jmp(-5)), bundle(at, r)), 5)
		}
		checkError(t, "the rules, in one bundle", bundle(0, joined(jmp(-9), r, jz(1, 99))), 5)
		checkError(t, "a jump to what breaks the rules", bundle(0, joined(jmp(0), r)), 5)
		checkError(t, "the rules, in the last bundle", joined(badJumps(127), bundle(0, r)), 5)
	}
	for _, second := range [][]byte{load(1, 2), store(2, 1)} {
		checkError(t, "a pair that a bundle's end parts", joined(bundle(30, maskD(2)), bundle(0, second)), 5)
		checkError(t, "a jump between a pair's two", bundle(0, joined(maskD(2), jmp(-5), second)), 5)
	}
}

// 9.3, and all of them once more

// shuffled answers code by a rule: jumps to near places, pairs, masks and others.
func shuffled(r []byte) []byte {
	var code []byte
	for k := 0; k+3 <= len(r); k += 3 {
		reg, by := int(r[k]/8)%8, int(r[k+1])-128
		if r[k+2] > 60 { // mostly back and forth to where another one of its kind may begin
			by = by / 32 * 32
		}
		b := nops(1)
		switch r[k] % 8 {
		case 0, 1:
			b = jmp(by - (len(code)+5)%32)
		case 2:
			b = jz(reg, by-(len(code)+6)%32)
		case 3:
			b = joined(maskD(reg), load(7-reg, reg))
		case 4:
			b = joined(maskC(reg), jr(reg))
		case 5:
			b = movi(reg, by)
		case 6:
			b = maskD(reg)
		}
		if len(code)%32+len(b) > 32 {
			code = append(code, nops(32-len(code)%32)...)
		}
		code = append(code, b...)
	}
	return append(code, nops((32-len(code)%32)%32)...)
}

// TestRows has bytes by a rule, with some changed or not.
func TestRows(t *testing.T) {
	var told [7]int
	for i := range 6000 {
		r := row(3+3*(i%40), uint32(i))
		code := shuffled(r)
		told[checkSame(t, "a row", code)]++
		code[(int(r[0])*256+int(r[1]))%len(code)] = r[2] % 25
		told[checkSame(t, "a row with a byte changed", code)]++
		checkSame(t, "any bytes", row(32, uint32(i)))
	}
	for _, e := range []int{0, 2, 5, 6} {
		if told[e] < 300 {
			t.Errorf("of the rows' errors there are %v: too few to tell much", told)
		}
	}
}

// TestAsManyAsJumps counts jumps as they are built, and goals as they are told, whether they may be or not.
func TestAsManyAsJumps(t *testing.T) {
	for n := range 60 {
		for seed := range uint32(20) {
			r := row(2*n+2, seed)
			var code []byte
			for k := range n {
				b := jmp(int(r[2*k]) - 128)
				if r[2*k+1]%2 == 0 {
					b = jz(int(r[2*k+1])/2%8, 1<<31+int(r[2*k]))
				}
				if len(code)%32+len(b) > 32 {
					code = append(code, nops(32-len(code)%32)...)
				}
				code = append(code, b...)
			}
			code = append(code, nops(32-len(code)%32)...)
			if goals, e := Goals(code); e != 0 || len(goals) != n {
				t.Errorf("%d jumps have %d goals, %d", n, len(goals), e)
			}
		}
	}
}

// TestKeepsNothing holds that code stays, spare room included, and that what is answered is memory of its own.
func TestKeepsNothing(t *testing.T) {
	code := joined(jmp(-5), jz(1, 21), nops(21), jmp(-37), maskD(2), load(1, 2), nops(23))
	goals := []int{0, 32, 0}
	all := joined(row(16, 3), code, row(64, 4))
	was := bytes.Clone(all)
	part := all[16 : 16+len(code)]
	one, _ := Goals(part)
	two, _ := Goals(part)
	checkGoals(t, "a part", part, 0, goals...)
	if !bytes.Equal(all, was) {
		t.Errorf("the code became another one")
	}
	clear(all)
	if !slices.Equal(one, goals) || !slices.Equal(two, goals) {
		t.Errorf("what was answered is another one once the code is cleared: %v, %v", one, two)
	}
	checkGoals(t, "Halts where the code was", part, 0)
	copy(all, was)
	for i := range one[:cap(one)] {
		one[:cap(one)][i] = 77
	}
	if !slices.Equal(two, goals) || !bytes.Equal(all, was) {
		t.Errorf("an answer shares memory with another one, or with the code: %v", two)
	}
	checkGoals(t, "the code, once more", part, 0, goals...)
	for _, c := range []struct {
		at   int
		b    byte
		want api.Errno
	}{{37, 24, 2}, {38, 0x30, 5}, {1, 252, 6}} {
		part[c.at] = c.b
		was = bytes.Clone(all)
		if e := checkSame(t, "refused", part); e != c.want {
			t.Errorf("%d at %d is refused by %d, want %d", c.b, c.at, e, c.want)
		}
		checkError(t, "another length", part[:33], 4)
		if !bytes.Equal(all, was) {
			t.Errorf("code that is refused became another one")
		}
		part[c.at] = code[c.at]
	}
	checkGoals(t, "the code, mended", part, 0, goals...)
}

func ExampleMay() {
	intoPair := slices.Concat([]byte{19, 2, 0, 0, 0}, maskD(1), load(2, 1), nops(23))
	fmt.Println(May(intoPair))
	// Output: 6
}
