package lex

import (
	"slices"
	"strings"
	"testing"
	"unsafe"
)

// 15.3

// TestBack has drawn words, one behind the other, with blanks and line ends between.
func TestBack(t *testing.T) {
	var r draws = 153
	for range 3000 {
		want, text := drawn(&r, 4000)
		l, at, e := Read(text)
		if e != 0 || at != 0 || !slices.Equal(l, want) {
			t.Fatalf("Read(%q) = %v, %d, %d, want %v", text, l, at, e, want)
		}
		checkPlain(t, text)
	}
}

// drawn draws words, and a text that has them, of at most so many bytes.
func drawn(r *draws, most int) ([]Piece, string) {
	var l []Piece
	text := strings.Repeat(" ", r.below(2))
	for range r.below(60) {
		p := r.word()
		next := text + p.Text + r.gap()
		if len(next) > most {
			break
		}
		l, text = append(l, p), next
	}
	return l, text
}

// TestBackLong has texts that are as long as may be, with a blank or a line end between the words, and none behind the last.
func TestBackLong(t *testing.T) {
	var r draws = 40
	for range 50 {
		var want []Piece
		text := ""
		for {
			p := r.word()
			if len(text)+len(p.Text) > 4000 {
				break
			}
			want, text = append(want, p), text+p.Text
			if len(text) == 4000 {
				break
			}
			text += r.of(" \n", 1)
		}
		l, at, e := Read(text)
		if e != 0 || at != 0 || !slices.Equal(l, want) {
			t.Fatalf("Read(%q) = %v, %d, %d, want %v", text, l, at, e, want)
		}
	}
}

// TestBackAgain holds that the texts of words that were read, with blanks between, are read as these words.
func TestBackAgain(t *testing.T) {
	var r draws = 154
	for range 5000 {
		l, _, e := Read(r.of("ai1n0f=;<-9 \n", r.below(40)))
		if e != 0 {
			continue
		}
		for _, between := range []string{" ", "\n", "  ", " \n "} {
			var texts []string
			for _, p := range l {
				texts = append(texts, p.Text)
			}
			checkWords(t, strings.Join(texts, between), l...)
		}
	}
}

// TestPairsBack has each two of some words of all kinds, with a blank between, and with a line end.
func TestPairsBack(t *testing.T) {
	l := []Piece{n("a"), n("abcdefgh"), n("a1"), n("i"), n("ifs"), d("0", 0), d("7", 7), d("4294967295", 1<<32-1), d("10", 10)}
	for _, key := range allKeys {
		l = append(l, k(key))
	}
	for _, sign := range allSigns {
		l = append(l, s(sign))
	}
	for _, one := range l {
		for _, two := range l {
			checkWords(t, one.Text+" "+two.Text, one, two)
			checkWords(t, one.Text+"\n"+two.Text, one, two)
		}
	}
}

// TestDrawnTexts has drawn texts, most of which aren't read.
func TestDrawnTexts(t *testing.T) {
	var r draws = 155
	all := make([]byte, 256)
	for i := range all {
		all[i] = byte(i)
	}
	for range 20000 {
		checkPlain(t, r.of("abz019=<; \n", r.below(30)))
		checkPlain(t, r.of("ifnout0123456789= ", r.below(60)))
		checkPlain(t, r.of(allLetters+"0123456789{}[]();=<+-*/% \n", r.below(12)))
		checkPlain(t, r.of(string(all), r.below(5)))
	}
}

// texts are some that are read, and some that aren't.
var texts = []string{"", " \n", "a=1", "while a1<=10{ out in;\n}", "var abcdefgh;\nabcdefgh = 4294967295;", "==="}

// TestTwice reads the same text twice, other texts between.
func TestTwice(t *testing.T) {
	wrong := []string{"a ?", "007", "abcdefghi", "a = 4294967296;", strings.Repeat("a ", 2001)}
	for _, text := range append(wrong, texts...) {
		l, at, e := Read(text)
		for _, other := range texts {
			Read(other)
		}
		Read(strings.Clone(text) + "!")
		l2, at2, e2 := Read(strings.Clone(text))
		if e != e2 || at != at2 || !slices.Equal(l, l2) {
			t.Errorf("Read(%q) = %v, %d, %d, then %v, %d, %d", short(text), l, at, e, l2, at2, e2)
		}
	}
}

// TestApart changes what a call handed out, spare room included: another call's answer stays as it is.
func TestApart(t *testing.T) {
	for _, text := range texts {
		one, _, _ := Read(text)
		two, _, _ := Read(text)
		want, _, _ := plainRead(text)
		for i := range one {
			one[i] = Piece{Kind: '?', Text: "?", V: 99}
		}
		whole := one[:cap(one)]
		for i := range whole {
			whole[i] = Piece{Kind: '!', Text: "!", V: 98}
		}
		if !slices.Equal(two, want) {
			t.Errorf("Read(%q) = %v, which another answer changed, want %v", text, two, want)
		}
		checkPlain(t, text)
	}
}

// TestOwn holds that no word's text lies in the text that was handed in, nor in another word's.
func TestOwn(t *testing.T) {
	text := strings.Repeat("while abc1 == 4294967295 { out 1; }\n", 9)
	l, _, e := Read(text)
	if e != 0 {
		t.Fatalf("Read = %d", e)
	}
	for i, p := range l {
		if meet(p.Text, text) {
			t.Errorf("the word %d, %q, lies in the text that was read", i, p.Text)
		}
		for j, other := range l[:i] {
			if meet(p.Text, other.Text) {
				t.Errorf("the words %d and %d, %q and %q, share memory", j, i, other.Text, p.Text)
			}
		}
	}
}

// meet tells whether two texts that aren't empty share memory.
func meet(a, b string) bool {
	one, two := uintptr(unsafe.Pointer(unsafe.StringData(a))), uintptr(unsafe.Pointer(unsafe.StringData(b)))
	return one < two+uintptr(len(b)) && two < one+uintptr(len(a))
}
