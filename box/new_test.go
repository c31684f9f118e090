package box

import (
	"math"
	"slices"
	"testing"

	"corral/api"
	"corral/gate"
	"corral/image"
	"corral/mem"
	"corral/slab"
)

// 13.1, New

// TestConstants has what a sandbox is, in numbers.
func TestConstants(t *testing.T) {
	if Ready != 0 || Over != 1 || Dead != 2 {
		t.Errorf("Ready %d, Over %d, Dead %d", Ready, Over, Dead)
	}
}

// unsafe is code that isn't safe, and chapter 10's error of it.
type unsafe struct {
	name string
	code []byte
	e    api.Errno
}

// unsafes are such of each error.
func unsafes() []unsafe {
	with := func(at int, b ...byte) []byte { return slices.Concat(nops(at), b, nops(64-at-len(b))) }
	return []unsafe{
		{"no code, nil", nil, api.ErrSize},
		{"no code, empty", []byte{}, api.ErrSize},
		{"one byte", nops(1), api.ErrSize},
		{"31 bytes", nops(31), api.ErrSize},
		{"33 bytes", nops(33), api.ErrSize},
		{"63 bytes", nops(63), api.ErrSize},
		{"4064 bytes and one", nops(4065), api.ErrSize},
		{"4096 bytes", nops(4096), api.ErrSize},
		{"4128 bytes", nops(4128), api.ErrSize},
		{"no operation", with(0, 24), api.ErrForm},
		{"no operation at the end", with(63, 255), api.ErrForm},
		{"a register that there isn't", with(5, 3, 0x88), api.ErrForm},
		{"parted by a bundle's end", with(31, 3, 0x12), api.ErrForm},
		{"cut off by the code's end", with(60, 1, 0, 5, 0), api.ErrForm},
		{"a Load alone", with(0, 15, 0x12), api.ErrRule},
		{"a Store alone", with(62, 16, 0x12), api.ErrRule},
		{"a Jr alone", with(10, 21, 0x10), api.ErrRule},
		{"a pair with another register", with(0, 17, 0x10, 15, 0x12), api.ErrRule},
		{"a pair parted by a Nop", with(0, 17, 0x20, 23, 15, 0x12), api.ErrRule},
		{"a pair parted by a bundle's end", with(30, 17, 0x20, 15, 0x12), api.ErrRule},
		{"a gate above 4", with(8, 22, 5), api.ErrRule},
		{"the greatest gate", with(8, 22, 255), api.ErrRule},
		{"a goal ahead of the code", with(0, 19, 250, 255, 255, 255), api.ErrGoal},
		{"a goal behind the code", with(0, 19, 59, 0, 0, 0), api.ErrGoal},
		{"a goal in an instruction", with(0, 19, 252, 255, 255, 255), api.ErrGoal},
		{"a goal in a pair", with(0, 20, 1, 2, 0, 0, 0, 17, 0x20, 15, 0x12), api.ErrGoal},
	}
}

// TestNewCode has code that isn't safe: chapter 10's error, ahead of all others.
func TestNewCode(t *testing.T) {
	for _, x := range unsafes() {
		m := filled(t, 4096, 3)
		for _, r := range regions([][2]int{{1024, 1024}, {256, 128}, {256, 64}, {256, 0}, {256, -1}, {0, 1024}, {100, 1024}, {3072, 1024}, {-1024, 1024}, {}}) {
			for _, data := range [][]byte{nil, {7}, row(512), row(513), row(9000)} {
				checkNoNew(t, x.name, m, r, image.Image{Code: x.code, Data: data}, x.e)
			}
		}
		checkNoNew(t, x.name+", no memory", nil, slab.Region{Base: 1024, Size: 1024}, image.Image{Code: x.code}, x.e)
	}
}

// TestNewFits has code as long as a region has room for, and longer.
func TestNewFits(t *testing.T) {
	for _, size := range sizes {
		m, r := filled(t, 3*size+64, 2), slab.Region{Base: 2 * size, Size: size}
		if m.Size() > 40000 {
			r.Base = size
		}
		for n := 32; n <= 4064; n += 32 {
			if n > 200 && n%(size/8) > 64 && n < 4000 {
				continue
			}
			x := image.Image{Code: nops(n), Data: []byte{1, 2, 3}}
			if n <= size/2-32 {
				checkNew(t, "code that fits", m, r, x, []uint32{4})
			} else {
				checkNoNew(t, "code that doesn't fit", m, r, x, api.ErrSize)
			}
		}
	}
}

// TestNewData has data as long as half the region, and longer.
func TestNewData(t *testing.T) {
	for _, size := range sizes {
		m, r := filled(t, 2*size+64, 2), slab.Region{Base: size, Size: size}
		half := size / 2
		for _, data := range [][]byte{nil, {}, {0}, {9}, row(2), row(31), row(63), row(half - 1), row(half)} {
			checkNew(t, "data", m, r, image.Image{Code: nops(32), Data: data}, nil)
			checkNew(t, "code and data", m, r, image.Image{Code: nops(min(half-32, 4064)), Data: data}, nil)
		}
		for _, n := range []int{half + 1, half + 2, half + 64, size, size + 1, 20000} {
			checkNoNew(t, "data", m, r, image.Image{Code: nops(32), Data: row(n)}, api.ErrSize)
		}
	}
}

// TestNewNoSize has sizes that no region has: nothing fits in them, wherever they are.
func TestNewNoSize(t *testing.T) {
	m := filled(t, 65536, 2)
	for _, size := range noSizes {
		for _, base := range []int{256, 0, 1, -size, size, 1024, 16384, 65536, math.MinInt, math.MaxInt} {
			for _, data := range [][]byte{nil, {1}} {
				checkNoNew(t, "no size", m, slab.Region{Base: base, Size: size}, image.Image{Code: nops(32), Data: data}, api.ErrSize)
			}
		}
	}
}

// TestNewPlace has regions all over a memory: one that isn't a memory's is refused.
func TestNewPlace(t *testing.T) {
	x := image.Image{Code: code(movi(1, 5), ask(1)), Data: row(9)}
	for _, size := range sizes {
		n := min(4*size+64, 65536)
		m := filled(t, n, 2)
		for _, base := range []int{0, -1, -64, -size, -2 * size, size, 2 * size, 3 * size, 4 * size, 5 * size, size - 1, size + 1, size + 64, size / 2, size - 64, 3 * size / 2, 2*size + 32, 64, 63, 1, n, n - 64, n - size, 1 << 31, 1<<31 - size, 1 << 32, 1<<32 + size, -1 << 31, -1 << 32, -1<<32 + size, math.MaxInt, math.MaxInt - size, math.MaxInt/size*size - size, math.MinInt, math.MinInt + size} {
			r := slab.Region{Base: base, Size: size}
			if base > 0 && base%size == 0 && base < n && base+size+64 <= n {
				checkNew(t, "a place", m, r, x, []uint32{1})
			} else {
				checkNoNew(t, "no place", m, r, x, api.ErrArg)
			}
		}
		for _, m := range []*mem.Mem{nil, {}} {
			checkNoNew(t, "no memory", m, slab.Region{Base: size, Size: size}, x, api.ErrArg)
		}
	}
}

// TestNewGuard has the guard behind a region just within the memory, and just beyond it.
func TestNewGuard(t *testing.T) {
	x := image.Image{Code: nops(32)}
	for _, size := range sizes {
		for k := 1; k <= 3 && (k+1)*size < 65536; k++ {
			r := slab.Region{Base: k * size, Size: size}
			end := (k + 1) * size
			checkNew(t, "with a guard", filled(t, end+64, 0), r, x, nil)
			checkNoNew(t, "without a guard", filled(t, end, 0), r, x, api.ErrArg)
			checkNoNew(t, "beyond the memory", filled(t, end-64, 0), r, x, api.ErrArg)
		}
	}
	checkNew(t, "the last one", filled(t, 65536, 3), slab.Region{Base: 65536 - 256, Size: 128}, x, nil)
	checkNoNew(t, "behind the last one", filled(t, 65536, 3), slab.Region{Base: 65536 - 128, Size: 128}, x, api.ErrArg)
}

// TestNewOrder has several errors at once: that of the size is ahead of that of the place.
func TestNewOrder(t *testing.T) {
	m := filled(t, 1024, 2)
	for _, base := range []int{0, -256, 100, 768, 1024, 65536} {
		checkNoNew(t, "code and place", m, slab.Region{Base: base, Size: 256}, image.Image{Code: nops(128)}, api.ErrSize)
		checkNoNew(t, "data and place", m, slab.Region{Base: base, Size: 256}, image.Image{Code: nops(96), Data: row(129)}, api.ErrSize)
		checkNoNew(t, "size and place", m, slab.Region{Base: base, Size: 255}, image.Image{Code: nops(32)}, api.ErrSize)
		checkNoNew(t, "place alone", m, slab.Region{Base: base, Size: 256}, image.Image{Code: nops(96), Data: row(128)}, api.ErrArg)
		checkNoNew(t, "size, and no memory", nil, slab.Region{Base: base, Size: 128}, image.Image{Code: nops(64)}, api.ErrSize)
	}
}

// TestNewZones has regions of which no zone, each other one, or all were there, with bytes in them, or one sandbox was ahead.
func TestNewZones(t *testing.T) {
	for _, size := range sizes[:5] {
		for by := range 6 {
			m, r := filled(t, 4*size+192, by), slab.Region{Base: 2 * size, Size: size}
			checkNew(t, "anew", m, r, image.Image{Code: nops(32), Data: []byte{8}}, nil)
			checkNew(t, "over it", m, r, image.Image{Code: code(movi(1, 2), ask(0)), Data: row(size / 2)}, []uint32{3})
			b := checkNew(t, "over that", m, r, image.Image{Code: nops(32)}, []uint32{4})
			if v, ok := m.Get(b.C.Base + 32); v != 0 || !ok {
				t.Errorf("behind the code there is %d", v)
			}
		}
	}
}

// TestNewReplies changes replies behind New: the sandbox is told them as they were.
func TestNewReplies(t *testing.T) {
	replies := []uint32{5, 6, 7, 8}
	m, b := alone(t, nil, replies[:3], ask(2), ask(2), ask(2), ask(2), ask(0))
	for i := range replies {
		replies[i] = 99
	}
	b, _ = Slice(m, b, 100)
	if got := gate.Text(b.W.Trace); got != "2 5\n2 6\n2 7\n2 0\n0 0\n" {
		t.Errorf("the sandbox tells %q", got)
	}
	if spare := b.W.Replies[:cap(b.W.Replies)]; len(spare) > 3 && spare[3] == 99 {
		t.Errorf("the spare room is that of the replies handed in")
	}
	b.W.Replies[0] = 3
	if replies[0] != 99 {
		t.Errorf("the replies handed in are changed by those handed out")
	}
}

// TestNewKeeps has what is handed in: it isn't changed, and isn't kept.
func TestNewKeeps(t *testing.T) {
	room := slices.Concat(code(ask(2), ask(0)), row(64))
	x := image.Image{Code: room[:32], Data: slices.Clone(room)[32:40]}
	replies := []uint32{5, 6, 7}
	before, data := slices.Clone(room), slices.Clone(x.Data[:cap(x.Data)])
	m, _ := mem.New(1024)
	b, e := New(m, slab.Region{Base: 512, Size: 128}, x, replies[:2])
	if e != 0 || !slices.Equal(room, before) || !slices.Equal(x.Data[:cap(x.Data)], data) || !slices.Equal(replies, []uint32{5, 6, 7}) {
		t.Errorf("New = %d; the image is %v, the replies %v", e, x, replies)
	}
	clear(room)
	clear(x.Data)
	if got, _ := m.Read(512, 32); !slices.Equal(got, before[:32]) {
		t.Errorf("the code is %v", got)
	}
	if got, _ := m.Read(576, 8); !slices.Equal(got, before[32:40]) {
		t.Errorf("the data are %v", got)
	}
	m.Write(512, nops(32))
	if slices.Contains(room, api.Nop) || b.Is != Ready {
		t.Errorf("the code handed in is the memory's")
	}
}

// TestNewMany has sandboxes side by side in one memory, each of which is made beside the others.
func TestNewMany(t *testing.T) {
	m := filled(t, 8192, 0)
	for i, r := range regions([][2]int{{256, 128}, {512, 256}, {1024, 512}, {2048, 1024}, {4096, 2048}, {7936, 128}}) {
		checkNew(t, "many", m, r, image.Image{Code: code(movi(0, uint32(i)), ask(0)), Data: row(i)}, []uint32{uint32(i)})
	}
}

// TestNewDrawn has drawn images in drawn regions.
func TestNewDrawn(t *testing.T) {
	var d draws = 13
	for range 400 {
		n := 64 * (70 + d.below(200))
		r := d.region(n)
		checkNew(t, "drawn", filled(t, n, d.below(4)), r, d.image(t, r.Size), d.replies())
	}
}
