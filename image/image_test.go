package image

import (
	"bytes"
	"slices"
	"testing"

	"corral/api"
)

// row answers n bytes that follow each other by a rule, so that each run of the tests has the same.
func row(n int, seed uint32) []byte {
	b := make([]byte, n)
	for i := range b {
		seed = seed*1664525 + 1013904223
		b[i] = byte(seed >> 24)
	}
	return b
}

// plainSum answers the sum's four bytes by chapter 5's words.
func plainSum(b []byte) []byte {
	h := uint64(2166136261)
	for _, x := range b {
		h = (h ^ uint64(x)) * 16777619 % (1 << 32)
	}
	return []byte{byte(h % 256), byte(h / 256 % 256), byte(h / 65536 % 256), byte(h / 16777216)}
}

// sealed answers bytes and their sum behind them, in memory of its own.
func sealed(b []byte) []byte { return append(bytes.Clone(b), plainSum(b)...) }

// told answers what stands ahead of the sum of an image that tells such lengths, whatever there is.
func told(code, data int, body []byte) []byte {
	b := []byte{'V', '3', '2', '1', byte(code % 256), byte(code / 256), byte(data % 256), byte(data / 256)}
	return append(b, body...)
}

// plainLay answers an image's bytes by the chapter's words.
func plainLay(code, data []byte) []byte {
	return sealed(told(len(code), len(data), append(bytes.Clone(code), data...)))
}

// plainRight tells by the chapter's words whether an image may have such lengths.
func plainRight(code, data int) bool {
	return code >= 32 && code <= 4096 && code%32 == 0 && data >= 0 && data <= 4096
}

// plainRead reads an image by the chapter's words.
func plainRead(b []byte) (code, data []byte, e api.Errno) {
	if len(b) < 12 || b[0] != 'V' || b[1] != '3' || b[2] != '2' || b[3] != '1' {
		return nil, nil, 2
	}
	end := len(b) - 4
	if !bytes.Equal(plainSum(b[:end]), b[end:]) {
		return nil, nil, 3
	}
	n, m := int(b[4])+int(b[5])*256, int(b[6])+int(b[7])*256
	if !plainRight(n, m) || len(b) != 8+n+m+4 {
		return nil, nil, 4
	}
	return b[8 : 8+n], b[8+n : end], 0
}

// checkRead holds what Read answers against the plain way.
func checkRead(t *testing.T, name string, b []byte) {
	t.Helper()
	code, data, want := plainRead(b)
	x, e := Read(b)
	if e != want || !bytes.Equal(x.Code, code) || !bytes.Equal(x.Data, data) {
		t.Errorf("%s: Read of %d bytes = %d and %d bytes, %d, want %d and %d bytes, %d", name, len(b), len(x.Code), len(x.Data), e, len(code), len(data), want)
	}
}

// checkError holds that Read answers an error, and an image without anything.
func checkError(t *testing.T, name string, b []byte, want api.Errno) {
	t.Helper()
	x, e := Read(b)
	if e != want || len(x.Code) != 0 || len(x.Data) != 0 {
		t.Errorf("%s: Read of %d bytes = %d and %d bytes, %d, want %d", name, len(b), len(x.Code), len(x.Data), e, want)
	}
}

// codes and datas are the lengths at which something turns.
func codes() []int {
	return []int{0, 1, 16, 31, 32, 33, 63, 64, 65, 96, 255, 256, 257, 288, 2048, 4064, 4080, 4095, 4096, 4097, 4112, 4128, 8192, 65535, 65536, 65568, 65600, 69632, 131072 + 32}
}

func datas() []int {
	return []int{0, 1, 2, 3, 4, 31, 32, 33, 255, 256, 257, 258, 4095, 4096, 4097, 4098, 8192, 65535, 65536, 65537, 65536 + 4096}
}

// 6.1

func TestRight(t *testing.T) {
	for _, n := range codes() {
		for _, m := range datas() {
			if got, want := Right(Image{row(n, 1), row(m, 2)}), plainRight(n, m); got != want {
				t.Errorf("Right of %d and %d bytes = %v", n, m, got)
			}
		}
	}
}

func TestRightOfEachLength(t *testing.T) {
	b := row(4200, 3)
	for n := range len(b) + 1 {
		if got, want := Right(Image{Code: b[:n]}), n >= 32 && n <= 4096 && n%32 == 0; got != want {
			t.Errorf("Right of %d bytes of code = %v", n, got)
		}
		if got, want := Right(Image{Code: b[:32], Data: b[:n]}), n <= 4096; got != want {
			t.Errorf("Right of %d bytes of data = %v", n, got)
		}
	}
}

func TestNoCode(t *testing.T) {
	for _, x := range []Image{{}, {Code: []byte{}}, {Data: row(32, 1)}, {Code: []byte{}, Data: row(4096, 1)}, {Code: make([]byte, 0, 64), Data: []byte{}}} {
		if Right(x) {
			t.Errorf("Right of no code and %d bytes of data", len(x.Data))
		}
		if b, e := Lay(x); e != 4 || len(b) != 0 {
			t.Errorf("Lay of no code and %d bytes of data = %d bytes, %d", len(x.Data), len(b), e)
		}
	}
}

// TestNoData holds that nil and a list without elements are one.
func TestNoData(t *testing.T) {
	code := row(64, 5)
	want := plainLay(code, nil)
	for _, data := range [][]byte{nil, {}, make([]byte, 0, 9), code[:0]} {
		x := Image{code, data}
		if b, e := Lay(x); !Right(x) || e != 0 || !bytes.Equal(b, want) {
			t.Errorf("Lay without data = %v, %d, want %v", b, e, want)
		}
	}
}

// TestLayExample is the chapter's example.
func TestLayExample(t *testing.T) {
	want := append([]byte{'V', '3', '2', '1', 32, 0, 0, 0}, make([]byte, 32)...)
	want = append(want, 15, 80, 82, 160)
	if b, e := Lay(Image{Code: make([]byte, 32)}); e != 0 || len(b) != 44 || !bytes.Equal(b, want) {
		t.Errorf("Lay = %v, %d, want %v", b, e, want)
	}
}

// TestLayKnown holds beginnings and sums against those that another program told.
func TestLayKnown(t *testing.T) {
	rising := make([]byte, 32)
	for i := range rising {
		rising[i] = byte(i)
	}
	for _, x := range []struct {
		code, data []byte
		size       int
		head, tail string
	}{
		{rising, nil, 44, "V321\x20\x00\x00\x00", "\x0f\xd8\x14\x29"},
		{make([]byte, 64), []byte("data"), 80, "V321\x40\x00\x04\x00", "\xd3\x4b\x02\xb6"},
		{rising, []byte{255, 0, 128}, 47, "V321\x20\x00\x03\x00", "\xd9\xc8\x43\xb3"},
		{make([]byte, 288), make([]byte, 258), 558, "V321\x20\x01\x02\x01", "\xd1\xca\xe7\x1b"},
		{bytes.Repeat([]byte{23}, 4096), bytes.Repeat([]byte{255}, 4096), 8204, "V321\x00\x10\x00\x10", "\x8f\xac\x36\x4c"},
	} {
		b, e := Lay(Image{x.code, x.data})
		if e != 0 || len(b) != x.size || string(b[:8]) != x.head || string(b[x.size-4:]) != x.tail {
			t.Errorf("Lay of %d and %d bytes = %d bytes, %d: %v", len(x.code), len(x.data), len(b), e, b)
			continue
		}
		if body := append(bytes.Clone(x.code), x.data...); !bytes.Equal(b[8:x.size-4], body) {
			t.Errorf("Lay of %d and %d bytes: code and data are %v", len(x.code), len(x.data), b[8:x.size-4])
		}
	}
}

func TestLay(t *testing.T) {
	for _, n := range codes() {
		for _, m := range datas() {
			code, data := row(n, uint32(n)), row(m, uint32(m)+9)
			b, e := Lay(Image{code, data})
			if !plainRight(n, m) {
				if e != 4 || len(b) != 0 {
					t.Errorf("Lay of %d and %d bytes = %d bytes, %d", n, m, len(b), e)
				}
				continue
			}
			if e != 0 || !bytes.Equal(b, plainLay(code, data)) {
				t.Errorf("Lay of %d and %d bytes = %d bytes, %d", n, m, len(b), e)
			}
		}
	}
}

// TestLayKeepsNothing holds that what is handed in stays, spare room included, and is apart from what is answered.
func TestLayKeepsNothing(t *testing.T) {
	all := row(200, 8)
	was := bytes.Clone(all)
	x := Image{Code: all[8:72], Data: all[80:100]}
	want := plainLay(x.Code, x.Data)
	b, _ := Lay(x)
	again, _ := Lay(x)
	clear(again[:cap(again)])
	if !bytes.Equal(b, want) || !bytes.Equal(all, was) {
		t.Errorf("an answer shares memory with a later one, or with what was handed in")
	}
	b = b[:len(want)]
	clear(all)
	if !bytes.Equal(b, want) {
		t.Errorf("an answer is %v once the image is cleared", b)
	}
	copy(all, was)
	clear(b[:cap(b)])
	if !bytes.Equal(all, was) {
		t.Errorf("what was handed in is %v, was %v", all, was)
	}
}

// TestLayOfSharedParts holds that code and data may lie in the same memory.
func TestLayOfSharedParts(t *testing.T) {
	all := row(96, 4)
	for _, x := range []Image{{all[:32], all[:32]}, {all[:64], all[16:80]}, {all[32:96], all[:40]}, {all[:32], all[32:]}} {
		if b, e := Lay(x); e != 0 || !bytes.Equal(b, plainLay(x.Code, x.Data)) {
			t.Errorf("Lay = %v, %d", b, e)
		}
	}
}

// 6.2

func TestReadOfFewBytes(t *testing.T) {
	checkError(t, "nil", nil, 2)
	checkError(t, "no bytes", []byte{}, 2)
	for n := range 12 {
		checkError(t, "the beginning of one", plainLay(row(32, 1), nil)[:n], 2)
		checkError(t, "any", row(n, 6), 2)
		if n >= 4 {
			checkError(t, "with a right sum", sealed(told(32, 0, nil)[:n-4]), 2)
		}
	}
	checkError(t, "twelve bytes of another sum", append(told(0, 0, nil), 1, 2, 3, 4), 3)
	checkError(t, "twelve bytes of no sum", append(told(32, 0, nil), 0, 0, 0, 0), 3)
	checkError(t, "twelve bytes, no code", sealed(told(0, 0, nil)), 4)
	checkError(t, "twelve bytes, code that isn't there", sealed(told(32, 0, nil)), 4)
	checkError(t, "twelve bytes of another form", row(12, 6), 2)
}

// TestReadOfOtherBeginnings has right sums, so that nothing else is wrong.
func TestReadOfOtherBeginnings(t *testing.T) {
	for at := range 4 {
		for x := range 256 {
			head := told(32, 5, row(37, 3))
			if int(head[at]) == x {
				continue
			}
			head[at] = byte(x)
			checkError(t, "another beginning", sealed(head), 2)
		}
	}
	for _, s := range []string{"v321", "V123", "123V", "V\x03\x02\x01", " V32", "V320", "V322", "V221", "V331"} {
		checkError(t, s, sealed(append([]byte(s), told(32, 0, row(32, 3))[4:]...)), 2)
	}
}

func TestReadOfOtherSums(t *testing.T) {
	for _, m := range []int{0, 1, 9} {
		b := plainLay(row(32, 7), row(m, 7))
		for at := len(b) - 4; at < len(b); at++ {
			for x := 1; x < 256; x++ {
				other := bytes.Clone(b)
				other[at] ^= byte(x)
				checkError(t, "another sum", other, 3)
			}
		}
		n := len(b) - 4
		for _, s := range [][]byte{{b[n+3], b[n+2], b[n+1], b[n]}, {b[n+1], b[n], b[n+3], b[n+2]}, {0, 0, 0, 0}, {255, 255, 255, 255}, plainSum(b[4:n]), plainSum(b[8:n]), plainSum(b)} {
			checkError(t, "another sum", append(bytes.Clone(b[:n]), s...), 3)
		}
	}
}

// TestReadOfLengthsThatMayNotBe has as many bytes as are told, and right sums.
func TestReadOfLengthsThatMayNotBe(t *testing.T) {
	for _, n := range codes() {
		for _, m := range datas() {
			if n > 65535 || m > 65535 {
				continue
			}
			b := sealed(told(n, m, row(n+m, 2)))
			checkRead(t, "as many as are told", b)
			if !plainRight(n, m) {
				checkError(t, "lengths that may not be", b, 4)
			}
		}
	}
}

// TestReadOfOtherLengths has right sums, and lengths that may be, but aren't those of what is there.
func TestReadOfOtherLengths(t *testing.T) {
	for _, n := range []int{32, 64, 256, 4096} {
		for _, m := range []int{0, 1, 32, 33, 255, 256, 4096} {
			for _, by := range []int{-n - m, -m - 1, -64, -33, -32, -31, -4, -1, 1, 2, 4, 31, 32, 33, 64, 256, 4096, 65536} {
				if n+m+by < 0 {
					continue
				}
				b := sealed(told(n, m, row(n+m+by, 2)))
				checkError(t, "more or fewer bytes than are told", b, 4)
			}
			checkError(t, "no bytes at all", sealed(told(n, m, nil)), 4)
		}
	}
}

// TestReadOfLengthsTurned has lengths that come to the right number of bytes in all, but that may not be.
func TestReadOfLengthsTurned(t *testing.T) {
	body := row(96, 2)
	for n := range 97 {
		b := sealed(told(n, 96-n, body))
		checkRead(t, "lengths that come to 96", b)
		if n%32 != 0 || n == 0 {
			checkError(t, "lengths that come to 96", b, 4)
		}
	}
}

// TestReadOfFirstError has several things wrong: the one that the chapter names first is answered.
func TestReadOfFirstError(t *testing.T) {
	form := told(33, 5, row(7, 3))
	form[0] = 'W'
	checkError(t, "form and size", sealed(form), 2)
	checkError(t, "form, sum and size", append(form, 0, 0, 0, 0), 2)
	checkError(t, "few bytes and sum", told(33, 5, []byte{1, 2, 3}), 2)
	checkError(t, "sum and size", append(told(33, 5, row(7, 3)), 0, 0, 0, 0), 3)
	checkError(t, "sum and no code", append(told(0, 0, nil), 0, 0, 0, 0), 3)
	checkError(t, "sum and fewer bytes", plainLay(row(64, 1), row(9, 1))[:50], 3)
	checkError(t, "sum and more bytes", append(plainLay(row(64, 1), row(9, 1)), 0), 3)
}

// TestReadOfFewerAndMore cuts an image off at each place, and sets bytes behind it and ahead of it.
func TestReadOfFewerAndMore(t *testing.T) {
	b := plainLay(row(64, 11), row(20, 12))
	for n := range b {
		checkRead(t, "cut off", b[:n])
		if n < 12 {
			checkError(t, "cut off", b[:n], 2)
		} else {
			checkError(t, "cut off", b[:n], 3)
			checkError(t, "cut off, sealed", sealed(b[:n-4]), 4)
		}
		checkRead(t, "cut off ahead", b[n:])
	}
	for _, more := range [][]byte{{0}, {255}, {0, 0, 0, 0}, b} {
		checkError(t, "more behind", append(bytes.Clone(b), more...), 3)
		checkError(t, "more behind, sealed", sealed(append(bytes.Clone(b), more...)), 4)
		checkRead(t, "more ahead", append(bytes.Clone(more), b...))
	}
	checkError(t, "very many bytes", sealed(told(4096, 4096, row(1<<20, 3))), 4)
}

func TestReadOfRows(t *testing.T) {
	for i := range 4000 {
		r := row(6, uint32(i))
		n, m := int(r[0]%5)*32+int(r[1]%8)/7, int(r[2])%70
		b := sealed(told(n, m, row(n+m+int(r[3]%8)/7, uint32(i))))
		if r[4]%8 == 0 {
			b[int(r[5])%len(b)]++
		}
		checkRead(t, "a row", b)
	}
}

// 6.3

func TestLaidIsRead(t *testing.T) {
	for _, n := range codes() {
		for _, m := range datas() {
			if !plainRight(n, m) {
				continue
			}
			for _, x := range []Image{{row(n, uint32(m)), row(m, uint32(n))}, {make([]byte, n), make([]byte, m)}, {bytes.Repeat([]byte{255}, n), bytes.Repeat([]byte{255}, m)}} {
				b, e := Lay(x)
				y, f := Read(b)
				if e != 0 || f != 0 || !bytes.Equal(x.Code, y.Code) || !bytes.Equal(x.Data, y.Data) {
					t.Errorf("an image of %d and %d bytes, laid (%d) and read (%d): %d and %d bytes", n, m, e, f, len(y.Code), len(y.Data))
				}
			}
		}
	}
}

// TestReadIsLaid holds that what is read is laid as the bytes that it was read from.
func TestReadIsLaid(t *testing.T) {
	for n := 32; n <= 4096; n += 32 {
		b := plainLay(row(n, 1), row(n/3, 2))
		x, e := Read(b)
		if again, f := Lay(x); e != 0 || f != 0 || !Right(x) || !bytes.Equal(b, again) {
			t.Errorf("%d bytes, read (%d) and laid (%d): %d bytes", len(b), e, f, len(again))
		}
	}
}

// TestLaidOfBundles holds that images whose code and data are cut elsewhere are laid unlike.
func TestLaidOfBundles(t *testing.T) {
	all := row(128, 6)
	seen := map[string]bool{}
	for n := 32; n <= 128; n += 32 {
		b, _ := Lay(Image{all[:n], all[n:]})
		seen[string(b)] = true
	}
	if len(seen) != 4 {
		t.Errorf("four images are laid as %d", len(seen))
	}
}

// changedError answers what an image is refused with, one byte of which is another: where the lengths or the parts change, it is the sum that tells.
func changedError(at int) api.Errno {
	if at < 4 {
		return 2
	}
	return 3
}

// TestChangedIsNotRead sets each byte of small images to each other number.
func TestChangedIsNotRead(t *testing.T) {
	for _, x := range []Image{{Code: make([]byte, 32)}, {row(32, 2), row(3, 2)}, {row(64, 2), row(40, 2)}} {
		b, _ := Lay(x)
		for at := range b {
			was := b[at]
			for add := 1; add < 256; add++ {
				b[at] = was + byte(add)
				checkError(t, "a byte changed", b, changedError(at))
			}
			b[at] = was
		}
	}
}

// TestChangedIsNotReadAtMost changes a bit of each byte of the greatest image.
func TestChangedIsNotReadAtMost(t *testing.T) {
	b, _ := Lay(Image{row(4096, 2), row(4096, 3)})
	for at := range b {
		b[at] ^= 1 << (at % 8)
		checkError(t, "a bit changed", b, changedError(at))
		b[at] ^= 1 << (at % 8)
	}
	if _, e := Read(b); e != 0 {
		t.Errorf("Read of what is as it was = %d", e)
	}
}

// TestReadKeepsNothing holds that the bytes read stay, spare room included, and that what is read is memory of its own.
func TestReadKeepsNothing(t *testing.T) {
	x := Image{row(64, 1), row(20, 2)}
	size := len(plainLay(x.Code, x.Data))
	all := append(append(row(16, 3), plainLay(x.Code, x.Data)...), row(16, 4)...)
	was := bytes.Clone(all)
	y, _ := Read(all[16 : 16+size])
	again, _ := Read(all[16 : 16+size])
	clear(all)
	same := func(y Image) bool { return bytes.Equal(x.Code, y.Code) && bytes.Equal(x.Data, y.Data) }
	if !same(y) || !same(again) {
		t.Fatalf("what is read is %v once the bytes are cleared", y)
	}
	copy(all, was)
	clear(y.Code[:cap(y.Code)])
	if !bytes.Equal(y.Data, x.Data) || !same(again) || !bytes.Equal(all, was) {
		t.Errorf("the code shares memory with the data, with an earlier answer or with the bytes")
	}
	copy(y.Code, x.Code)
	clear(y.Data[:cap(y.Data)])
	if !bytes.Equal(y.Code, x.Code) || !same(again) || !bytes.Equal(all, was) {
		t.Errorf("the data shares memory with the code, with an earlier answer or with the bytes")
	}
}

// TestReadWithoutSpareRoom holds that what lies behind the bytes doesn't reach what is read.
func TestReadWithoutSpareRoom(t *testing.T) {
	b := plainLay(row(32, 1), row(5, 2))
	long := append(bytes.Clone(b), row(40, 1)...)
	for n := range b {
		checkRead(t, "cut off, with spare room", long[:n])
		checkRead(t, "cut off, without", slices.Clip(bytes.Clone(b[:n])))
	}
	checkRead(t, "with spare room", long[:len(b)])
}
