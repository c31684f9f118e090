package verify

import (
	"bytes"
	"slices"
	"strconv"
	"testing"

	"corral/api"
	"corral/mem"
	"corral/step"
)

// 10.3

// sandbox is code in a region of a memory.
type sandbox struct {
	m          *mem.Mem
	base, size int
	from, to   int          // what is there of the memory
	code       int          // how many bytes the code has
	starts     map[int]bool // where its instructions begin; nil, if it isn't scanned
	did        [24]int      // how often each operation was done
	beyond     int          // how many bytes behind the region were touched, at most
}

// settle lays code in a region of a memory that goes on behind it, all other bytes being by a rule. If it is to be alone, only the zones are there that the region and the three bytes behind it lie in.
func settle(t *testing.T, code []byte, base, size int, alone bool, seed uint32) *sandbox {
	t.Helper()
	m, e := mem.New((base+size)/64*64 + 192)
	if e != 0 || len(code) > size/2 {
		t.Fatalf("no memory, or no room for %d bytes in a region of %d at %d", len(code), size, base)
	}
	s := &sandbox{m: m, base: base, size: size, to: m.Size(), code: len(code)}
	if alone {
		s.from, s.to = base/64*64, (base+size+2)/64*64+64
	}
	if m.Set(s.from, s.to-s.from, true) != 0 || !m.Write(s.from, row(s.to-s.from, seed)) || !m.Write(base, joined(code, halts(size/2-len(code)))) {
		t.Fatalf("no region of %d at %d", size, base)
	}
	if starts, _, e := plainScan(code); e == 0 {
		s.starts = map[int]bool{}
		for _, at := range starts {
			s.starts[at] = true
		}
	}
	return s
}

// cpu answers a processor of the region that begins with its code.
func (s *sandbox) cpu(r [8]uint32) step.Cpu {
	return step.Cpu{Pc: uint32(s.base), R: r, Base: uint32(s.base), Size: uint32(s.size)}
}

// bytes answers what is there.
func (s *sandbox) bytes() []byte {
	b, _ := s.m.Read(s.from, s.to-s.from)
	return b
}

// next answers the instruction that comes next, and what is wrong with where it lies.
func (s *sandbox) next(c step.Cpu) (api.Ins, string) {
	at, half := int(c.Pc)-s.base, s.size/2
	if at < 0 || at >= half {
		return api.Ins{}, "fetches at " + strconv.Itoa(at)
	}
	b, _ := s.m.Read(int(c.Pc), min(6, half-at))
	x, n := plainRead(b)
	if n == 0 {
		return x, "fetches what is no instruction, or reaches beyond the lower half, at " + strconv.Itoa(at)
	}
	if at < s.code && s.starts != nil && !s.starts[at] {
		return x, "fetches where no instruction begins, at " + strconv.Itoa(at)
	}
	return x, ""
}

// step makes a step, and answers what it did that the promise doesn't have, "" if nothing.
func (s *sandbox) step(c step.Cpu) (step.Cpu, step.Out, string) {
	x, wrong := s.next(c)
	if wrong != "" {
		return c, step.Out{}, wrong
	}
	want := s.bytes()
	after, out := step.Do(c, s.m)
	s.did[x.Op]++
	if x.Op == api.Load || x.Op == api.Store {
		at := int(c.R[x.B])
		if x.Op == api.Store {
			at = int(c.R[x.A])
		}
		if at < s.base+s.size/2 || at >= s.base+s.size {
			return after, out, "touches from " + strconv.Itoa(at-s.base) + " on"
		}
		s.beyond = max(s.beyond, at+4-s.base-s.size)
		if x.Op == api.Store {
			copy(want[at-s.from:], four(int(c.R[x.B])))
		}
	}
	if out.What == api.Faulted || out.What == api.Broken {
		return after, out, "comes to " + strconv.Itoa(out.What)
	}
	if !bytes.Equal(want, s.bytes()) {
		return after, out, "changes other bytes"
	}
	return after, out, ""
}

// watch makes steps, up to so many, till one halts or traps, or does what the promise doesn't have. At a Gate registers are drawn anew.
func (s *sandbox) watch(c step.Cpu, steps int) (step.Cpu, step.Out, string) {
	var out step.Out
	for i := range steps {
		var wrong string
		c, out, wrong = s.step(c)
		if wrong != "" || out.What == api.Halted || out.What == api.Trapped {
			return c, out, wrong
		}
		if out.What == api.Gated {
			c.R = registers(uint32(i) + c.R[0])
		}
	}
	return c, out, ""
}

// registers answers registers that are drawn: numbers at edges, and any.
func registers(seed uint32) [8]uint32 {
	edges := []uint32{0, 1, 2, 31, 32, 33, 63, 64, 127, 128, 4095, 8191, 16383, 16384, 1<<31 - 1, 1 << 31, 1<<31 + 1, top - 127, top - 63, top - 31, top - 3, top - 1, top}
	var r [8]uint32
	b := row(48, seed)
	for i := range r {
		r[i] = edges[int(b[6*i])%len(edges)]
		if b[6*i+1] < 100 {
			r[i] = uint32(b[6*i+2]) | uint32(b[6*i+3])<<8 | uint32(b[6*i+4])<<16 | uint32(b[6*i+5])<<24
		}
	}
	return r
}

// places answers where regions of a size are tried: at 0, at a multiple of the size, between such, and at an odd place.
func places(size int) []int { return []int{0, size, 64, 2*size + 192, 16384, 333} }

// settled checks that code is safe and fits, and settles it.
func settled(t *testing.T, code []byte, base, size int, alone bool, seed uint32) *sandbox {
	t.Helper()
	checkCode(t, "settled", code, 0)
	if !Fits(len(code), size) {
		t.Fatalf("code of %d bytes doesn't fit in a region of %d", len(code), size)
	}
	return settle(t, code, base, size, alone, seed)
}

// checkWatch watches code in a region.
func checkWatch(t *testing.T, name string, s *sandbox, c step.Cpu, steps int) (step.Cpu, step.Out) {
	t.Helper()
	c, out, wrong := s.watch(c, steps)
	if wrong != "" {
		t.Errorf("%s: %d bytes of code in a region of %d at %d, registers %v: a step at %d %s", name, s.code, s.size, s.base, c.R, int(c.Pc)-s.base, wrong)
	}
	return c, out
}

// piece answers a piece of safe code that three bytes tell of; its jumps are yet to be given goals.
func piece(kind, x, y byte) []byte {
	a, b := int(x%8), int(y%8)
	switch kind % 20 {
	case 0, 1:
		return loads(a, b)
	case 2, 3, 4:
		return stores(a, b)
	case 5:
		return jumps(a)
	case 6, 7:
		return jmp(0)
	case 8, 9:
		return jz(a, 0)
	case 10, 11:
		return movi(a, int(registers(uint32(x)*256 + uint32(y))[0]))
	case 12:
		return gate(a % 5)
	case 13:
		return maskD(a)
	case 14:
		return maskC(a)
	case 15:
		return [][]byte{{0}, {23}, {6, byte(16*a + b)}, {7, byte(16*a + b)}}[y/8%4]
	}
	return []byte{[]byte{2, 3, 4, 5, 8, 9, 10, 11, 12, 13, 14}[int(x/8)%11], byte(16*a + b)}
}

// drawn answers safe code that bytes tell of.
func drawn(r []byte) []byte {
	var code []byte
	for k := 0; k+3 <= len(r); k += 3 {
		b := piece(r[k], r[k+1], r[k+2])
		if len(code)%32+len(b) > 32 {
			code = append(code, nops(32-len(code)%32)...)
		}
		code = append(code, b...)
	}
	return aimed(append(code, nops((32-len(code)%32)%32)...), r)
}

// aimed gives code's jumps goals that may be, near or far.
func aimed(code, r []byte) []byte {
	starts, l, _ := plainScan(code)
	var goals []int
	for i, at := range starts {
		if at%32 == 0 || !plainPair(l[i-1], l[i]) {
			goals = append(goals, at)
		}
	}
	for i, at := range starts {
		goal := goals[(int(r[i%len(r)])*31+i)%len(goals)]
		switch l[i].Op {
		case api.Jmp:
			copy(code[at:], jumpTo(-1, at, goal))
		case api.Jz:
			copy(code[at:], jumpTo(l[i].A, at, goal))
		}
	}
	return code
}

// TestDrawn watches code that is drawn, and such with a byte changed that is safe still, in regions of all sizes at some places.
func TestDrawn(t *testing.T) {
	var did [24]int
	watched, beyond := 0, 0
	for i := range 3000 {
		r := row(8+i%300, uint32(i))
		size := regions[i%len(regions)]
		base := places(size)[i/8%6]
		code := drawn(r)
		changed := put(code, int(r[0])*7%len(code), []byte{r[1] % 24})
		for _, c := range [][]byte{code, changed} {
			if plainCode(c) != 0 || !Fits(len(c), size) {
				continue
			}
			s := settled(t, c, base, size, i%2 == 0, uint32(i))
			checkWatch(t, "drawn", s, s.cpu(registers(uint32(i))), 150)
			beyond = max(beyond, s.beyond)
			watched++
			for op, n := range s.did {
				did[op] += n
			}
		}
	}
	if slices.Min(did[:]) < 20 || watched < 2000 || beyond != 3 {
		t.Errorf("%d were watched, up to %d bytes behind their regions, each operation so often: %v: too few to tell much", watched, beyond, did)
	}
}

// TestAlone holds that of two memories that are alike in a region and three bytes behind it, and nowhere else, runs are alike, and leave alike regions, and all else as it was.
func TestAlone(t *testing.T) {
	for i := range 400 {
		size := regions[i%3+1]
		code := drawn(row(8+i%60, uint32(i)+5))
		if !Fits(len(code), size) {
			continue
		}
		base := places(size)[1+i%5]
		one := settled(t, code, base, size, false, uint32(i))
		two := settled(t, code, base, size, false, uint32(i)+1)
		own, _ := one.m.Read(base, size+3)
		two.m.Write(base, own)
		ahead, behind := two.bytes()[:base], two.bytes()[base+size+3:]
		c, out := checkWatch(t, "one", one, one.cpu(registers(uint32(i))), 100)
		c2, out2 := checkWatch(t, "two", two, two.cpu(registers(uint32(i))), 100)
		own, _ = one.m.Read(base, size+3)
		own2, _ := two.m.Read(base, size+3)
		if c != c2 || out != out2 || !bytes.Equal(own, own2) {
			t.Errorf("%d: runs are unlike: %v, %v and %v, %v", i, c, out, c2, out2)
		}
		if !bytes.Equal(ahead, two.bytes()[:base]) || !bytes.Equal(behind, two.bytes()[base+size+3:]) {
			t.Errorf("%d: bytes ahead of the region or behind it have changed", i)
		}
	}
}

// TestLastBytes stores and loads at the upper half's last bytes: up to three behind it are touched.
func TestLastBytes(t *testing.T) {
	code := bundle(0, joined(stores(1, 2), loads(3, 4), []byte{0}))
	for _, size := range regions {
		half := uint32(size / 2)
		for _, base := range places(size) {
			for rest := half - 6; rest < half; rest++ {
				for _, v := range []uint32{rest, rest + half, rest + 1<<31, rest - half} {
					s := settled(t, code, base, size, true, v)
					want := s.bytes()
					at := base + size/2 + int(rest)
					copy(want[at-s.from:], four(0x01020304))
					c, out := checkWatch(t, "the last bytes", s, s.cpu([8]uint32{1: v, 2: 0x01020304, 4: v}), 9)
					if out.What != api.Halted || c.R[1] != uint32(at) || c.R[3] != 0x01020304 || !bytes.Equal(s.bytes(), want) {
						t.Errorf("a region of %d at %d: at %d from its end on the registers are %v, %v", size, base, base+size-at, c.R, out)
					}
				}
			}
		}
	}
}

// TestNothingBehind has a region where the zone behind isn't there, or the memory ends: what isn't whole is Faulted, and changes nothing.
func TestNothingBehind(t *testing.T) {
	for _, size := range regions {
		for _, first := range [][]byte{stores(1, 2), loads(2, 1)} {
			code := bundle(0, first)
			for by := uint32(1); by <= 8; by++ {
				for _, more := range []int{0, 64} {
					s := settled(t, code, size, size, false, by)
					m, _ := mem.New(2*size + more)
					m.Set(size, size, true)
					own, _ := s.m.Read(size, size)
					m.Write(size, own)
					c, out, _ := step.Run(s.cpu([8]uint32{1: -by, 2: 7}), m, 2)
					is, _ := m.Read(size, size)
					if by < 4 && (out.What != api.Faulted || c.Pc != uint32(size)+2 || !bytes.Equal(is, own)) || by >= 4 && out.What != api.Runs {
						t.Errorf("%d bytes ahead of the end of a region of %d: %v, %v", by, size, c, out)
					}
				}
			}
		}
	}
}

// TestFirstBytes stores and loads at the upper half's first bytes.
func TestFirstBytes(t *testing.T) {
	code := bundle(0, joined(stores(1, 2), loads(3, 4), []byte{0}))
	for _, size := range regions {
		half := uint32(size / 2)
		for _, base := range places(size) {
			for _, v := range []uint32{0, half, 1 << 31, -half, 1, half + 1, 1<<31 + 1} {
				s := settled(t, code, base, size, true, v)
				c, out := checkWatch(t, "the first bytes", s, s.cpu([8]uint32{1: v, 2: 99, 4: v}), 9)
				if out.What != api.Halted || c.R[1] != uint32(base)+half+v%2 || c.R[3] != 99 {
					t.Errorf("a region of %d at %d: by %d the registers are %v, %v", size, base, v, c.R, out)
				}
			}
		}
	}
}

// TestJrEach jumps to each bundle of the lower half: the code's, and those behind it.
func TestJrEach(t *testing.T) {
	for _, size := range regions {
		half := size / 2
		for _, bundles := range []int{1, (half/32 + 1) / 3, half/32 - 1} {
			if bundles < 1 || bundles > 127 {
				continue
			}
			code := aimed(joined(bundle(0, jumps(1)), safe(bundles)[32:]), row(9, uint32(bundles)))
			for _, base := range places(size)[:4] {
				s := settled(t, code, base, size, true, 1)
				for k := range half / 32 {
					for _, by := range []int{0, 1, 31, half, 1<<31 + 17, 1<<32 - half, 1<<32 - half + 31} {
						checkJr(t, s, k, uint32(32*k+by))
					}
				}
			}
		}
	}
}

// checkJr holds that a Jr by register 1 goes to a bundle, and watches what comes behind.
func checkJr(t *testing.T, s *sandbox, bundle int, v uint32) {
	t.Helper()
	r := registers(v)
	r[1] = v
	c, out := checkWatch(t, "a Jr", s, s.cpu(r), 2)
	if out.What != api.Runs || int(c.Pc) != s.base+32*bundle {
		t.Errorf("a Jr by %d in a region of %d at %d: %v, %v", v, s.size, s.base, c, out)
	}
	after, out := checkWatch(t, "behind a Jr", s, c, 12)
	if 32*bundle >= s.code && (out.What != api.Halted || after != c) {
		t.Errorf("a Jr by %d, behind the code, in a region of %d at %d: %v, %v", v, s.size, s.base, after, out)
	}
}

// TestJumpsToEnds jumps to the last instruction, and from there to the first one.
func TestJumpsToEnds(t *testing.T) {
	for _, size := range regions {
		most := min(size/2-32, 4064)
		for n := 32; n <= most; n += 32 * (1 + n/512) {
			for _, base := range places(size)[:3] {
				for a := -1; a < 8; a += 8 {
					code := put(nops(n), 0, jumpTo(a, 0, n-5))
					code = put(code, n-5, jumpTo(-1, n-5, 0))
					s := settled(t, code, base, size, true, 3)
					c, _ := checkWatch(t, "to the last one", s, s.cpu([8]uint32{}), 1)
					if int(c.Pc) != base+n-5 {
						t.Errorf("a jump to the last of %d bytes goes to %d", n, int(c.Pc)-base)
					}
					if c, _ = checkWatch(t, "to the first one", s, c, 1); int(c.Pc) != base {
						t.Errorf("a jump to the first of %d bytes goes to %d", n, int(c.Pc)-base)
					}
					checkWatch(t, "back and forth", s, c, 20)
				}
			}
		}
	}
}

// TestRunsOn has code that runs on behind its last bundle: there it halts.
func TestRunsOn(t *testing.T) {
	for _, size := range regions {
		most := min(size/2-32, 4064)
		for _, n := range []int{32, 64, 96, most - 32, most} {
			if n < 32 || n > most {
				continue
			}
			for _, base := range places(size)[:4] {
				for _, b := range [][]byte{nops(1), movi(2, 9), jumpTo(0, n-6, 0), gate(3), loads(1, 2), stores(2, 1)} {
					s := settled(t, put(nops(n), n-len(b), b), base, size, true, 4)
					c := s.cpu([8]uint32{0: 1}) // by which the Jz doesn't jump
					c.Pc += uint32(n - 32)
					c, out := checkWatch(t, "the last bundle", s, c, 33)
					if out.What != api.Halted || int(c.Pc) != base+n {
						t.Errorf("code of %d bytes in a region of %d ends at %d, %v", n, size, int(c.Pc)-base, out)
					}
				}
			}
		}
	}
}

// TestRunsThrough has code that is run through from its first instruction to behind its last one.
func TestRunsThrough(t *testing.T) {
	for _, size := range regions[:5] {
		for n := 32; n <= size/2-32; n += 32 * (1 + n/128) {
			s := settled(t, nops(n), size, size, true, 4)
			if c, out := checkWatch(t, "all Nops", s, s.cpu([8]uint32{}), n+1); out.What != api.Halted || int(c.Pc) != size+n {
				t.Errorf("code of %d bytes in a region of %d ends at %d, %v", n, size, int(c.Pc)-size, out)
			}
		}
	}
}

// TestGates has Gates in between: each is told, and the run goes on behind it.
func TestGates(t *testing.T) {
	code := joined(gate(0), gate(1), loads(1, 2), gate(2), stores(2, 1), gate(3), jumpTo(-1, 16, 34), nops(11), gate(0), gate(4), nops(5), gate(1), nops(21))
	for _, size := range []int{256, 1024, 16384} {
		for i, base := range places(size) {
			s := settled(t, code, base, size, true, 5)
			c := s.cpu(registers(uint32(i)))
			var told []int
			for {
				after, out, wrong := s.step(c)
				if wrong != "" {
					t.Fatalf("a step at %d %s", int(c.Pc)-base, wrong)
				}
				c = after
				if out.What == api.Halted {
					break
				}
				if out.What == api.Gated {
					told = append(told, out.Gate)
					c.R = registers(c.Pc)
				}
			}
			if !slices.Equal(told, []int{0, 1, 2, 3, 4, 1}) || int(c.Pc) != base+64 {
				t.Errorf("a region of %d at %d: Gates %v, and the end is at %d", size, base, told, int(c.Pc)-base)
			}
		}
	}
}

// TestTraps has code that divides by 0: nothing is changed by that.
func TestTraps(t *testing.T) {
	for op := byte(api.Div); op <= api.Rem; op++ {
		s := settled(t, bundle(0, []byte{op, 0x12}), 192, 128, true, 6)
		if c, out := checkWatch(t, "a trap", s, s.cpu([8]uint32{1: 7}), 3); out.What != api.Trapped || c != s.cpu([8]uint32{1: 7}) {
			t.Errorf("by 0: %v, %v", c, out)
		}
	}
}

// TestUnsafe has code that gets out of what the promise has, in some region, by some registers: Code refuses it, or it doesn't fit.
func TestUnsafe(t *testing.T) {
	hidden := joined(jmp(2), []byte{1, 2}, load(1, 2), []byte{0, 0}, nops(21))
	for _, x := range []struct {
		name string
		code []byte
		want api.Errno
	}{
		{"a Load alone", bundle(0, load(1, 2)), 5},
		{"a Store alone", bundle(0, store(2, 1)), 5},
		{"a Jr alone", bundle(0, jr(2)), 5},
		{"a Load by another register", bundle(0, joined(maskD(1), load(1, 2))), 5},
		{"a Load by what was loaded", bundle(0, joined(loads(2, 2), load(1, 2))), 5},
		{"a Store by a masked number", bundle(0, joined(maskD(1), store(2, 1))), 5},
		{"a Load in the lower half", bundle(0, joined(maskC(2), load(1, 2))), 5},
		{"a Jr to the upper half", bundle(0, joined(maskD(2), jr(2))), 5},
		{"a Load some way behind its mask", bundle(0, joined(maskD(2), movi(2, 9), load(1, 2))), 5},
		{"a jump behind a mask", bundle(0, joined(jmp(2), loads(1, 2))), 6},
		{"a jump into an instruction", hidden, 6},
		{"a jump ahead of the code", bundle(0, jmp(-6)), 6},
		{"a jump to the upper half", bundle(0, jmp(130)), 6},
		{"a jump far away", bundle(0, jmp(1<<20)), 6},
		{"what is no instruction", bundle(9, []byte{24}), 2},
		{"a Load at a bundle's beginning, within an instruction", joined(jumps(1), nops(26), movi(1, 0x120f), nops(28)), 2},
	} {
		checkCode(t, x.name, x.code, x.want)
		s := settle(t, x.code, 128, 256, false, 8)
		if _, _, wrong := s.watch(s.cpu([8]uint32{1: 32, 2: 3}), 40); wrong == "" {
			t.Errorf("%s: it doesn't get out", x.name)
		}
	}
	for _, size := range regions[:6] {
		code := nops(size / 2)
		checkCode(t, "as many as half a region", code, 0)
		s := settle(t, code, 64, size, false, 9)
		if _, _, wrong := s.watch(s.cpu([8]uint32{}), size); wrong == "" || Fits(len(code), size) {
			t.Errorf("code of %d bytes fits in a region of %d", len(code), size)
		}
	}
}
