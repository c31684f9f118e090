package mem

import (
	"bytes"
	"fmt"
	"math"
	"testing"

	"corral/api"
)

const top = 1<<32 - 1

// plain is a memory by the chapter's words, byte by byte.
type plain struct {
	is []bool
	b  []byte
}

// in tells whether n bytes from at on lie in it. Places and numbers come in small here.
func (p *plain) in(at, n int) bool { return at >= 0 && n >= 0 && at+n <= len(p.b) }

// has tells whether n bytes from at on are there.
func (p *plain) has(at, n int) bool {
	if !p.in(at, n) {
		return false
	}
	for i := at; i < at+n; i++ {
		if !p.is[i] {
			return false
		}
	}
	return true
}

func (p *plain) set(at, n int, is bool) api.Errno {
	if at%64 != 0 || n%64 != 0 || !p.in(at, n) {
		return 1
	}
	for i := at; i < at+n; i++ {
		p.is[i], p.b[i] = is, 0
	}
	return 0
}

func (p *plain) get(at int) (uint32, bool) {
	if !p.has(at, 4) {
		return 0, false
	}
	return uint32(p.b[at]) + uint32(p.b[at+1])*256 + uint32(p.b[at+2])*256*256 + uint32(p.b[at+3])*256*256*256, true
}

func (p *plain) write(at int, b []byte) bool {
	if !p.has(at, len(b)) {
		return false
	}
	for i, x := range b {
		p.b[at+i] = x
	}
	return true
}

// made answers a memory of n bytes, and a plain one.
func made(t *testing.T, n int) (*Mem, *plain) {
	t.Helper()
	m, e := New(n)
	if m == nil || e != api.OK {
		t.Fatalf("New(%d) = %v, %d", n, m, e)
	}
	return m, &plain{make([]bool, n), make([]byte, n)}
}

// filled answers a memory of n bytes and a plain one, of which these zones are there, with bytes that are unlike their neighbours and not 0.
func filled(t *testing.T, n int, zones ...int) (*Mem, *plain) {
	t.Helper()
	m, p := made(t, n)
	for _, z := range zones {
		b := make([]byte, 64)
		for i := range b {
			b[i] = byte(1 + (z*64+i)%255)
		}
		if e := m.Set(z*64, 64, true); e != api.OK || !m.Write(z*64, b) {
			t.Fatalf("the zone %d: Set = %d, or it can't be written", z, e)
		}
		p.set(z*64, 64, true)
		p.write(z*64, b)
	}
	return m, p
}

// checkSame holds all bytes of a memory against a plain one's.
func checkSame(t *testing.T, m *Mem, p *plain, after string) {
	t.Helper()
	if m.Size() != len(p.b) {
		t.Fatalf("%s: Size() = %d, want %d", after, m.Size(), len(p.b))
	}
	for at := range p.b {
		if m.There(at) != p.is[at] {
			t.Fatalf("%s: There(%d) = %v", after, at, m.There(at))
		}
		b, ok := m.Read(at, 1)
		if ok != p.is[at] || ok && (len(b) != 1 || b[0] != p.b[at]) || !ok && len(b) != 0 {
			t.Fatalf("%s: Read(%d, 1) = %v, %v, want %d, %v", after, at, b, ok, p.b[at], p.is[at])
		}
	}
}

// 3.1

func TestNew(t *testing.T) {
	for _, n := range []int{64, 128, 192, 256, 320, 1024, 4096, 16384, 32768, 65536 - 64, 65536} {
		m, p := made(t, n)
		if m.Size() != n {
			t.Errorf("New(%d): Size() = %d", n, m.Size())
		}
		checkSame(t, m, p, "at first")
	}
}

func TestNewOfWrongSizes(t *testing.T) {
	for _, n := range []int{
		0, -1, -63, -64, -65, -128, -65536, 1, 2, 32, 63, 65, 66, 96, 127, 129, 191, 1000, 65535, 65536 - 63, 65536 - 65,
		65537, 65536 + 32, 65536 + 64, 2 * 65536, 1 << 31, 1 << 32, 1<<32 + 64, 1<<40 + 128, math.MaxInt32, math.MinInt32, math.MaxInt, math.MaxInt - 63, math.MinInt, math.MinInt + 64,
	} {
		if m, e := New(n); m != nil || e != api.ErrArg {
			t.Errorf("New(%d) = %v, %d, want nil, %d", n, m, e, api.ErrArg)
		}
	}
}

func TestNewOfAllSizes(t *testing.T) {
	for n := -200; n <= 65536+200; n++ {
		right := n >= 64 && n <= 65536 && n%64 == 0
		m, e := New(n)
		if right != (m != nil) || right != (e == api.OK) || !right && e != api.ErrArg {
			t.Fatalf("New(%d) = %v, %d", n, m != nil, e)
		}
	}
}

func TestTwoMemoriesAreApart(t *testing.T) {
	m, p := filled(t, 256, 1, 2)
	other, q := made(t, 256)
	checkSame(t, other, q, "another one was filled")
	other.Set(0, 256, true)
	other.Put(100, top)
	checkSame(t, m, p, "another one was put in")
}

func TestThere(t *testing.T) {
	m, _ := filled(t, 256, 1, 3)
	for _, x := range []struct {
		at   int
		want bool
	}{
		{math.MinInt, false}, {math.MinInt + 64, false}, {-1 << 32, false}, {-256, false}, {-192, false}, {-64, false}, {-2, false}, {-1, false},
		{0, false}, {1, false}, {63, false}, {64, true}, {65, true}, {127, true}, {128, false}, {191, false}, {192, true}, {254, true}, {255, true},
		{256, false}, {257, false}, {319, false}, {320, false}, {65536, false}, {1<<32 + 64, false}, {math.MaxInt - 1, false}, {math.MaxInt, false},
	} {
		if got := m.There(x.at); got != x.want {
			t.Errorf("There(%d) = %v", x.at, got)
		}
	}
}

func TestThereInTheLeastAndTheGreatest(t *testing.T) {
	for _, n := range []int{64, 65536} {
		m, _ := made(t, n)
		if m.There(0) || m.There(n-1) {
			t.Errorf("of %d bytes some are there at first", n)
		}
		if e := m.Set(0, n, true); e != api.OK {
			t.Errorf("Set(0, %d, true) = %d", n, e)
		}
		if m.There(-1) || !m.There(0) || !m.There(n-1) || m.There(n) {
			t.Errorf("of %d bytes: There = %v, %v, %v, %v", n, m.There(-1), m.There(0), m.There(n-1), m.There(n))
		}
	}
}

func TestSet(t *testing.T) {
	for at := 0; at <= 256; at += 64 {
		for n := 0; at+n <= 256; n += 64 {
			for _, is := range []bool{true, false} {
				m, p := filled(t, 256, 0, 2, 3)
				if e := m.Set(at, n, is); e != api.OK {
					t.Errorf("Set(%d, %d, %v) = %d", at, n, is, e)
				}
				p.set(at, n, is)
				checkSame(t, m, p, fmt.Sprintf("Set(%d, %d, %v)", at, n, is))
			}
		}
	}
}

func TestSetOneByOne(t *testing.T) {
	m, _ := made(t, 256)
	if e := m.Set(64, 128, true); e != api.OK {
		t.Fatalf("Set = %d", e)
	}
	for at := range 256 {
		if m.There(at) != (at >= 64 && at < 192) {
			t.Errorf("There(%d) = %v", at, m.There(at))
		}
	}
	if e := m.Set(128, 128, false); e != api.OK {
		t.Fatalf("Set = %d", e)
	}
	for at := range 256 {
		if m.There(at) != (at >= 64 && at < 128) {
			t.Errorf("There(%d) = %v, as a part went", at, m.There(at))
		}
	}
}

func TestSetOfWrongPlaces(t *testing.T) {
	for _, x := range []struct{ at, n int }{
		{1, 64}, {32, 64}, {63, 64}, {65, 64}, {32, 32}, {-1, 64}, {-32, 64}, {255, 0}, {1, 0}, {63, 0}, {32, 0}, {1, 63}, // an at that is no multiple
		{0, 1}, {0, 32}, {0, 63}, {0, 65}, {64, 1}, {64, 127}, {0, 255}, {256, 1}, {192, 63}, {0, -1}, {64, -1}, {64, -63}, // an n that is none
		{-64, 64}, {-64, 128}, {-64, 0}, {-256, 256}, {-64, -64}, {-256, 512}, // below 0
		{0, -64}, {64, -64}, {128, -128}, {256, -64}, {256, -256}, {320, -64}, {512, -256},
		{0, 320}, {192, 128}, {64, 256}, {256, 64}, {256, 256}, {320, 0}, {320, 64}, {512, 0}, {65536, 0}, {65536, 64}, {0, 65536}, // beyond the memory
		{0, math.MaxInt - 63}, {64, math.MaxInt - 63}, {192, math.MaxInt - 63}, {256, math.MaxInt - 63}, {math.MaxInt - 63, 0}, {math.MaxInt - 63, 64}, {math.MaxInt - 63, 128}, {math.MaxInt - 63, math.MaxInt - 63},
		{math.MinInt, 0}, {math.MinInt, 64}, {math.MinInt, math.MinInt}, {0, math.MinInt}, {64, math.MinInt}, {256, math.MinInt}, {math.MinInt, math.MaxInt - 63}, {math.MaxInt - 63, math.MinInt},
		{math.MaxInt, math.MaxInt}, {math.MaxInt, 1}, {0, math.MaxInt}, {math.MaxInt, 0}, {1, math.MinInt}, {math.MinInt + 1, 64},
		{1 << 32, 64}, {0, 1 << 32}, {64, 1 << 32}, {1 << 32, 0}, {1<<32 + 64, 64}, {64, 1<<32 + 64}, {-1 << 32, 64}, {64, -1 << 32}, {1 << 31, 1 << 31},
	} {
		for _, is := range []bool{true, false} {
			m, p := filled(t, 256, 0, 2, 3)
			if e := m.Set(x.at, x.n, is); e != api.ErrArg {
				t.Errorf("Set(%d, %d, %v) = %d, want %d", x.at, x.n, is, e, api.ErrArg)
			}
			checkSame(t, m, p, fmt.Sprintf("Set(%d, %d, %v) was refused", x.at, x.n, is))
		}
	}
}

func TestSetOfNoBytes(t *testing.T) {
	m, p := filled(t, 256, 0, 2)
	for at := -512; at <= 512; at++ {
		want := api.ErrArg
		if at >= 0 && at <= 256 && at%64 == 0 {
			want = api.OK
		}
		for _, is := range []bool{true, false} {
			if e := m.Set(at, 0, is); e != want {
				t.Errorf("Set(%d, 0, %v) = %d, want %d", at, is, e, want)
			}
		}
	}
	checkSame(t, m, p, "no bytes were set")
}

// 3.2

func TestPutAndGet(t *testing.T) {
	m, p := filled(t, 256, 1, 2)
	for _, x := range []struct {
		at, v uint32
		want  string
	}{
		{64, 0x01020304, "\x04\x03\x02\x01"}, {188, 7, "\x07\x00\x00\x00"}, {125, 0xfffefdfc, "\xfc\xfd\xfe\xff"}, {126, 1 << 31, "\x00\x00\x00\x80"},
		{127, 256, "\x00\x01\x00\x00"}, {65, 0, "\x00\x00\x00\x00"}, {100, top, "\xff\xff\xff\xff"}, {101, 1 << 16, "\x00\x00\x01\x00"}, {128, 1<<24 + 255, "\xff\x00\x00\x01"},
	} {
		if !m.Put(x.at, x.v) {
			t.Errorf("Put(%d, %d) = false", x.at, x.v)
		}
		if b, ok := m.Read(int(x.at), 4); !ok || string(b) != x.want {
			t.Errorf("Put(%d, %d): Read = %q, %v, want %q", x.at, x.v, b, ok, x.want)
		}
		if v, ok := m.Get(x.at); !ok || v != x.v {
			t.Errorf("Put(%d, %d): Get = %d, %v", x.at, x.v, v, ok)
		}
		p.write(int(x.at), []byte(x.want))
		checkSame(t, m, p, fmt.Sprintf("Put(%d, %d)", x.at, x.v))
	}
}

func TestGetAtAllPlaces(t *testing.T) {
	m, p := filled(t, 384, 1, 2, 4, 5)
	for at := range 384 + 70 {
		want, there := p.get(at)
		if v, ok := m.Get(uint32(at)); v != want || ok != there {
			t.Errorf("Get(%d) = %x, %v, want %x, %v", at, v, ok, want, there)
		}
	}
}

func TestPutAtAllPlaces(t *testing.T) {
	for at := range 384 + 70 {
		m, p := filled(t, 384, 1, 2, 4, 5)
		want := p.write(at, []byte{0xd4, 0xc3, 0xb2, 0xa1})
		if ok := m.Put(uint32(at), 0xa1b2c3d4); ok != want {
			t.Errorf("Put(%d) = %v", at, ok)
		}
		checkSame(t, m, p, fmt.Sprintf("Put(%d)", at))
	}
}

func TestAcrossTwoZones(t *testing.T) {
	for _, zone := range []int{1, 2} { // the other one of the two isn't there
		for _, at := range []uint32{125, 126, 127} {
			m, p := filled(t, 256, zone)
			if v, ok := m.Get(at); v != 0 || ok {
				t.Errorf("Get(%d) = %d, %v, of the zone %d alone", at, v, ok, zone)
			}
			if m.Put(at, top) {
				t.Errorf("Put(%d) = true, of the zone %d alone", at, zone)
			}
			checkSame(t, m, p, fmt.Sprintf("Put(%d) was refused", at))
		}
	}
}

func TestTheLastFourBytes(t *testing.T) {
	for _, n := range []int{64, 256, 65536} {
		m, p := filled(t, n, n/64-1)
		last := uint32(n - 4)
		if v, ok := m.Get(last); !ok || v == 0 || !m.Put(last, 0x01020304) {
			t.Errorf("Get(%d) = %d, %v, or it can't be put", last, v, ok)
		}
		if v, ok := m.Get(last); !ok || v != 0x01020304 {
			t.Errorf("Get(%d) = %x, %v", last, v, ok)
		}
		p.write(n-4, []byte{4, 3, 2, 1})
		for _, at := range []uint32{last + 1, last + 2, last + 3, last + 4, last + 5, last + 64, last + 65536} {
			if v, ok := m.Get(at); v != 0 || ok || m.Put(at, 1) {
				t.Errorf("of %d bytes: Get(%d) = %d, %v, or it was put", n, at, v, ok)
			}
		}
		checkSame(t, m, p, "what lies beyond the memory was put")
	}
}

// TestFarPlaces asks for places at which four more, or the lowest bits alone, would be in the memory.
func TestFarPlaces(t *testing.T) {
	for _, n := range []int{64, 256, 65536} {
		m, p := made(t, n)
		m.Set(0, n, true)
		p.set(0, n, true)
		for _, at := range []uint32{top, top - 1, top - 2, top - 3, top - 4, top - 63, top - 64, 1 << 31, 1<<31 - 1, 1<<31 - 4, 1<<31 + 4, 1 << 16, 1<<16 + 64, 1 << 24, 1<<31 + 1<<16} {
			if v, ok := m.Get(at); v != 0 || ok {
				t.Errorf("of %d bytes: Get(%d) = %d, %v", n, at, v, ok)
			}
			if m.Put(at, 0x01020304) {
				t.Errorf("of %d bytes: Put(%d) = true", n, at)
			}
		}
		checkSame(t, m, p, "far places were put")
	}
}

func TestReadAtAllPlaces(t *testing.T) {
	m, p := filled(t, 320, 0, 1, 3)
	for at := -70; at <= 320+70; at++ {
		for n := -70; n <= 320+70; n++ {
			b, ok := m.Read(at, n)
			if ok != p.has(at, n) || ok && !bytes.Equal(b, p.b[at:at+n]) || !ok && len(b) != 0 {
				t.Fatalf("Read(%d, %d) = %v, %v", at, n, b, ok)
			}
		}
	}
	checkSame(t, m, p, "it was read")
}

func TestWriteAtAllPlaces(t *testing.T) {
	b := make([]byte, 200)
	for i := range b {
		b[i] = byte(255 - i)
	}
	for at := -70; at <= 256+70; at += 3 {
		for _, n := range []int{0, 1, 2, 3, 63, 64, 65, 66, 67, 127, 128, 129, 130, 192, 193} {
			m, p := filled(t, 256, 0, 1, 3)
			want := p.write(at, b[:n])
			if ok := m.Write(at, b[:n]); ok != want {
				t.Errorf("Write(%d, %d bytes) = %v", at, n, ok)
			}
			checkSame(t, m, p, fmt.Sprintf("Write(%d, %d bytes)", at, n))
		}
	}
}

func TestNoBytes(t *testing.T) {
	for _, zones := range [][]int{nil, {0}, {1, 3}, {0, 1, 2, 3}} { // whether at's own byte is there is no matter
		m, p := filled(t, 256, zones...)
		places := []int{math.MinInt, math.MinInt + 1, -1 << 32, 1 << 32, 1<<32 + 64, math.MaxInt - 1, math.MaxInt, 65536}
		for at := -70; at <= 256+70; at++ {
			places = append(places, at)
		}
		for _, at := range places {
			want := at >= 0 && at <= 256
			if b, ok := m.Read(at, 0); len(b) != 0 || ok != want {
				t.Errorf("%v: Read(%d, 0) = %v, %v", zones, at, b, ok)
			}
			if m.Write(at, nil) != want || m.Write(at, []byte{}) != want || m.Write(at, []byte{1, 2}[:0]) != want {
				t.Errorf("%v: Write(%d) of no bytes isn't %v", zones, at, want)
			}
		}
		checkSame(t, m, p, "no bytes were written")
	}
}

func TestReadOfWrongNumbers(t *testing.T) {
	m, p := made(t, 256)
	m.Set(0, 256, true)
	p.set(0, 256, true)
	for _, at := range []int{0, 1, 64, 100, 255, 256, 257, -1, -64, 1 << 32, -1 << 32, math.MaxInt, math.MaxInt - 255, math.MinInt} {
		for _, n := range []int{-1, -2, -64, -256, -1 << 32, math.MinInt, math.MinInt + 1, 257, 1 << 32, 1<<32 + 4, math.MaxInt, math.MaxInt - 1, math.MaxInt - 255} {
			if b, ok := m.Read(at, n); len(b) != 0 || ok {
				t.Errorf("Read(%d, %d) = %d bytes, %v", at, n, len(b), ok)
			}
		}
	}
	for _, at := range []int{-1, -2, -3, -4, -64, 253, 254, 255, 256, 257, 1 << 31, 1 << 32, 1<<32 + 64, -1 << 32, math.MaxInt, math.MaxInt - 1, math.MaxInt - 3, math.MinInt, math.MinInt + 4} {
		if b, ok := m.Read(at, 4); len(b) != 0 || ok {
			t.Errorf("Read(%d, 4) = %v, %v", at, b, ok)
		}
		if m.Write(at, []byte{1, 2, 3, 4}) {
			t.Errorf("Write(%d, 4 bytes) = true", at)
		}
	}
	checkSame(t, m, p, "wrong places were read and written")
}

func TestWriteOfWhatIsPartlyThere(t *testing.T) {
	b := bytes.Repeat([]byte{0xee}, 193)
	for _, x := range []struct{ at, n int }{
		{63, 2}, {0, 65}, {0, 64}, {63, 1}, {127, 1 + 64 + 1}, {64, 65}, {64, 129}, {127, 2}, {128, 1}, {191, 2}, {191, 65}, {192, 65}, {254, 3}, {255, 2}, {-1, 66}, {63, 193},
	} {
		m, p := filled(t, 256, 1, 3) // gaps ahead, between and behind
		if m.Write(x.at, b[:x.n]) {
			t.Errorf("Write(%d, %d bytes) = true", x.at, x.n)
		}
		if got, ok := m.Read(x.at, x.n); len(got) != 0 || ok {
			t.Errorf("Read(%d, %d) = %v, %v", x.at, x.n, got, ok)
		}
		checkSame(t, m, p, fmt.Sprintf("Write(%d, %d bytes) was refused", x.at, x.n))
	}
}

func TestTheWholeMemory(t *testing.T) {
	m, p := made(t, 65536)
	m.Set(0, 65536, true)
	b := make([]byte, 65536)
	for i := range b {
		b[i] = byte(i ^ i>>8)
	}
	if m.Write(0, append(bytes.Clone(b), 1)) || m.Write(1, b) || !m.Write(0, b) {
		t.Errorf("Write of 65536 bytes")
	}
	p.set(0, 65536, true)
	p.write(0, b)
	checkSame(t, m, p, "all was written")
	if got, ok := m.Read(0, 65536); !ok || !bytes.Equal(got, b) {
		t.Errorf("Read(0, 65536) = %d bytes, %v", len(got), ok)
	}
}

func TestWhatIsReadStays(t *testing.T) {
	m, p := filled(t, 256, 1, 2)
	first, _ := m.Read(100, 60)
	second, _ := m.Read(100, 60)
	want := bytes.Clone(first)
	m.Write(100, bytes.Repeat([]byte{0xee}, 60))
	m.Put(130, top)
	m.Set(64, 64, false)
	m.Set(64, 128, true)
	if !bytes.Equal(first, want) || !bytes.Equal(second, want) {
		t.Errorf("what was read became %v, %v", first, second)
	}
	m, p = filled(t, 256, 1, 2)
	first, _ = m.Read(100, 60)
	second, _ = m.Read(100, 60)
	none, _ := m.Read(100, 0)
	spoil(first)
	spoil(none)
	if !bytes.Equal(second, want) {
		t.Errorf("what was read shares with what was read: %v", second)
	}
	checkSame(t, m, p, "what was read was changed")
}

// spoil changes a list's bytes, spare room included.
func spoil(b []byte) {
	b = b[:cap(b)]
	for i := range b {
		b[i] = 0xee
	}
}

func TestWhatIsWrittenIsNotKept(t *testing.T) {
	m, p := filled(t, 256, 1, 2)
	room := []byte{9, 8, 7, 6, 5, 4, 3, 2, 1}
	for _, at := range []int{64, 126, 188, 189, 300, -1} {
		m.Write(at, room[2:6])
		p.write(at, room[2:6])
	}
	if !bytes.Equal(room, []byte{9, 8, 7, 6, 5, 4, 3, 2, 1}) {
		t.Errorf("what was handed in became %v", room)
	}
	spoil(room)
	checkSame(t, m, p, "what was handed in was changed later")
	m.Put(64, top)
	m.Set(64, 128, true)
	if !bytes.Equal(room, bytes.Repeat([]byte{0xee}, 9)) {
		t.Errorf("the memory writes to what was handed in: %v", room)
	}
}

func TestNil(t *testing.T) {
	var m *Mem
	if m.Size() != 0 {
		t.Errorf("Size() = %d", m.Size())
	}
	for _, at := range []int{0, 1, 64, -1, -64, 65536, math.MaxInt, math.MaxInt - 63, math.MinInt} {
		if m.There(at) {
			t.Errorf("There(%d) = true", at)
		}
		for _, n := range []int{0, 1, 64, -1, -64, math.MaxInt, math.MaxInt - 63, math.MinInt} {
			if e, g := m.Set(at, n, true), m.Set(at, n, false); e != api.ErrArg || g != api.ErrArg {
				t.Errorf("Set(%d, %d) = %d, %d", at, n, e, g)
			}
			if b, ok := m.Read(at, n); len(b) != 0 || ok {
				t.Errorf("Read(%d, %d) = %v, %v", at, n, b, ok)
			}
		}
		if v, ok := m.Get(uint32(at)); v != 0 || ok || m.Put(uint32(at), 1) {
			t.Errorf("Get(%d) = %d, %v, or it was put", at, v, ok)
		}
		if m.Write(at, nil) || m.Write(at, []byte{}) || m.Write(at, []byte{1}) {
			t.Errorf("Write(%d) = true", at)
		}
	}
}

// 3.3

func TestZonesSetAnewAreNought(t *testing.T) {
	for _, goes := range []bool{true, false} { // whether they go ahead of it
		m, p := filled(t, 320, 0, 1, 2, 3, 4)
		if goes {
			m.Set(64, 128, false)
			if v, ok := m.Get(64); v != 0 || ok || m.Put(64, 5) || m.Write(100, []byte{5}) {
				t.Errorf("Get(64) = %d, %v, or it was written, as it went", v, ok)
			}
		}
		m.Set(64, 128, true)
		p.set(64, 128, true)
		if b, ok := m.Read(64, 128); !ok || !bytes.Equal(b, make([]byte, 128)) {
			t.Errorf("Read(64, 128) = %v, %v", b, ok)
		}
		if b, ok := m.Read(0, 64); !ok || b[0] != 1 || b[63] != 64 {
			t.Errorf("Read(0, 64) = %v, %v", b, ok)
		}
		checkSame(t, m, p, "two zones were set anew")
	}
}

func TestSetAnewInParts(t *testing.T) {
	m, p := filled(t, 320, 0, 1, 2, 3, 4)
	for _, x := range []struct {
		at, n int
		is    bool
	}{{64, 192, false}, {128, 64, true}, {64, 64, true}, {192, 128, false}, {192, 64, true}, {0, 320, false}, {256, 64, true}} {
		m.Set(x.at, x.n, x.is)
		p.set(x.at, x.n, x.is)
		checkSame(t, m, p, fmt.Sprint(x))
		m.Put(uint32(x.at), top)
		p.write(x.at, []byte{255, 255, 255, 255})
	}
}

func TestWhatIsPutIsGot(t *testing.T) {
	m, p := made(t, 128)
	m.Set(0, 128, true)
	p.set(0, 128, true)
	for bit := range 32 {
		for at := range 125 {
			v := uint32(1)<<bit | uint32(at)
			p.write(at, []byte{byte(v % 256), byte(v / 256 % 256), byte(v / 65536 % 256), byte(v / 16777216)})
			if !m.Put(uint32(at), v) {
				t.Fatalf("Put(%d, %d) = false", at, v)
			}
			if got, ok := m.Get(uint32(at)); got != v || !ok {
				t.Fatalf("Put(%d, %d): Get = %d, %v", at, v, got, ok)
			}
			checkSame(t, m, p, fmt.Sprintf("Put(%d, %d)", at, v))
		}
	}
}

// chance answers numbers in an order of no plan, always the same ones.
type chance uint32

func (c *chance) below(n int) int {
	*c = *c*1664525 + 1013904223
	return int(*c>>8) % n
}

// TestManyCalls does calls of all kinds one behind the other, right ones and others, on a memory and on a plain one.
func TestManyCalls(t *testing.T) {
	for seed := range 20 {
		c := chance(seed)
		m, p := made(t, 64*(1+c.below(6)))
		n := len(p.b)
		for range 600 {
			at, some, is := c.below(n+140)-70, c.below(140)-4, c.below(3) > 0
			switch c.below(5) {
			case 0:
				if c.below(4) > 0 {
					at, some = at/64*64, some/64*64
				}
				if got, want := m.Set(at, some, is), p.set(at, some, is); got != want {
					t.Fatalf("Set(%d, %d, %v) = %d, want %d", at, some, is, got, want)
				}
			case 1:
				v := uint32(c.below(1<<20)) * 4099
				if got, want := m.Put(uint32(at), v), p.write(at, []byte{byte(v), byte(v >> 8), byte(v >> 16), byte(v >> 24)}); got != want {
					t.Fatalf("Put(%d) = %v", at, got)
				}
			case 2:
				v, ok := m.Get(uint32(at))
				if want, is := p.get(at); v != want || ok != is {
					t.Fatalf("Get(%d) = %d, %v, want %d, %v", at, v, ok, want, is)
				}
			case 3:
				b := bytes.Repeat([]byte{byte(1 + c.below(255))}, max(some, 0))
				if got, want := m.Write(at, b), p.write(at, b); got != want {
					t.Fatalf("Write(%d, %d bytes) = %v", at, len(b), got)
				}
			case 4:
				b, ok := m.Read(at, some)
				if ok != p.has(at, some) || ok && !bytes.Equal(b, p.b[at:at+some]) || !ok && len(b) != 0 {
					t.Fatalf("Read(%d, %d) = %v, %v", at, some, b, ok)
				}
			}
			checkSame(t, m, p, "one call of many")
		}
	}
}

func ExampleMem_Get() {
	m, _ := New(64)
	fmt.Println(m.Get(0))
	m.Set(0, 64, true)
	m.Put(0, 7)
	fmt.Println(m.Get(0))
	// Output:
	// 0 false
	// 7 true
}
