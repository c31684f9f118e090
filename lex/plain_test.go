package lex

import (
	"math/big"
	"regexp"
	"slices"
	"strings"
	"testing"

	"corral/api"
)

// allSigns, allKeys and allLetters are what the chapter names.
var (
	allSigns   = []string{"{", "}", "[", "]", "(", ")", ";", "=", "<", "+", "-", "*", "/", "%", "=="}
	allKeys    = []string{"var", "arr", "if", "else", "while", "out", "in", "exit"}
	allLetters = "abcdefghijklmnopqrstuvwxyz"
)

var (
	plainNames   = regexp.MustCompile(`^[a-z][a-z0-9]{0,7}$`)
	plainNumbers = regexp.MustCompile(`^[0-9]+$`)
)

// n answers the word that a name is.
func n(text string) Piece { return Piece{Kind: 'n', Text: text} }

// d answers the word that a number is.
func d(text string, v uint32) Piece { return Piece{Kind: '0', Text: text, V: v} }

// k answers the word that one of the names with a meaning is.
func k(text string) Piece { return Piece{Kind: 'k', Text: text} }

// s answers the word that a sign is.
func s(text string) Piece { return Piece{Kind: 's', Text: text} }

// plainWord answers the word that a text is as a whole, by the chapter's words, and whether it is one.
func plainWord(text string) (Piece, bool) {
	if slices.Contains(allSigns, text) {
		return s(text), true
	}
	if slices.Contains(allKeys, text) {
		return k(text), true
	}
	if plainNames.MatchString(text) {
		return n(text), true
	}
	if !plainNumbers.MatchString(text) {
		return Piece{}, false
	}
	v, _ := new(big.Int).SetString(text, 10)
	if v.Cmp(big.NewInt(4294967295)) > 0 || v.String() != text {
		return Piece{}, false
	}
	return d(text, uint32(v.Uint64())), true
}

// plainFirst answers the word that a text begins with: the longest, if what follows doesn't make it none.
func plainFirst(text string) (Piece, bool) {
	for size := min(len(text), 10); size > 0; size-- {
		p, ok := plainWord(text[:size])
		if !ok {
			continue
		}
		follows := size < len(text) && strings.IndexByte(allLetters+"0123456789", text[size]) >= 0
		return p, p.Kind == 's' || !follows
	}
	return Piece{}, false
}

// plainRead reads words by the chapter's words.
func plainRead(text string) ([]Piece, int, api.Errno) {
	if len(text) > 4000 {
		return nil, 0, 4
	}
	var l []Piece
	for at := 0; at < len(text); {
		if text[at] == 32 || text[at] == 10 {
			at++
			continue
		}
		p, ok := plainFirst(text[at:])
		if !ok {
			return nil, at, 2
		}
		l = append(l, p)
		at += len(p.Text)
	}
	return l, 0, 0
}

// short answers a text's beginning, for what a test tells.
func short(text string) string { return text[:min(len(text), 60)] }

// checkPlain holds what Read answers against the plain way.
func checkPlain(t *testing.T, text string) {
	t.Helper()
	l, at, e := Read(text)
	want, place, fault := plainRead(text)
	if e != fault || at != place || !slices.Equal(l, want) {
		t.Errorf("Read(%q) = %v, %d, %d, want %v, %d, %d", short(text), l, at, e, want, place, fault)
	}
}

// checkWords holds that a text is read as just these words, which are written out.
func checkWords(t *testing.T, text string, want ...Piece) {
	t.Helper()
	l, at, e := Read(text)
	if e != 0 || at != 0 || !slices.Equal(l, want) {
		t.Errorf("Read(%q) = %v, %d, %d, want %v", short(text), l, at, e, want)
	}
	checkPlain(t, text)
}

// checkFault holds that a text isn't read, as at a place, which is written out, no word begins.
func checkFault(t *testing.T, text string, place int) {
	t.Helper()
	l, at, e := Read(text)
	if e != api.ErrForm || at != place || len(l) != 0 {
		t.Errorf("Read(%q) = %v, %d, %d, want the fault at %d", short(text), l, at, e, place)
	}
	checkPlain(t, text)
}

// checkLong holds that a text isn't read, as it has too many bytes.
func checkLong(t *testing.T, text string) {
	t.Helper()
	if l, at, e := Read(text); e != api.ErrSize || at != 0 || len(l) != 0 {
		t.Errorf("Read of %d bytes = %v, %d, %d", len(text), l, at, e)
	}
}

// draws are numbers that follow each other by a rule, so that each run of the tests has the same.
type draws uint32

// below draws one from 0 to below n.
func (r *draws) below(n int) int {
	*r = *r*1664525 + 1013904223
	return int(uint64(*r) * uint64(n) >> 32)
}

// of draws so many bytes of a text.
func (r *draws) of(from string, n int) string {
	b := make([]byte, n)
	for i := range b {
		b[i] = from[r.below(len(from))]
	}
	return string(b)
}

// gap draws blanks and line ends.
func (r *draws) gap() string { return r.of(" \n", 1+r.below(3)) }

// word draws a word of any kind.
func (r *draws) word() Piece {
	switch r.below(5) {
	case 0:
		return k(allKeys[r.below(len(allKeys))])
	case 1, 2:
		return s(allSigns[r.below(len(allSigns))])
	case 3:
		v := uint32(r.below(1<<32)) >> r.below(32)
		return d(big.NewInt(int64(v)).String(), v)
	}
	text := r.of(allLetters, 1) + r.of(allLetters+"0123456789", r.below(8))
	if slices.Contains(allKeys, text) {
		return k(text)
	}
	return n(text)
}
