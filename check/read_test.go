package check

import (
	"strings"
	"testing"

	"corral/api"
	"corral/parse"
)

// 17.2, Read

// TestChapter has the chapter's example.
func TestChapter(t *testing.T) {
	checkRead(t, "a = 1;", 0, api.ErrName)
	checkRead(t, "var a; a = 1;", 0, api.OK)
	checkRead(t, "arr a[1]; a = 1;", 0, api.ErrKind)
}

// TestRight has right programs, the trees of which are written out.
func TestRight(t *testing.T) {
	num := func(v uint32) parse.Node { return parse.Node{Kind: 1, A: -1, B: -1, C: -1, V: v} }
	for _, x := range []struct {
		text string
		want parse.Tree
	}{
		{"", tree(nil, node(13, ""))},
		{"var a;", tree(decls(vr("a")), node(13, ""))},
		{"var a; a = 7;", tree(decls(vr("a")), num(7), parse.Node{Kind: 7, A: 0, B: -1, C: -1, Name: "a"}, parse.Node{Kind: 13, A: -1, B: -1, C: -1, List: []int{1}})},
		{"arr b[32]; var a; b[1] = a;", tree(decls(arr("b", 32), vr("a")), num(1), node(2, "a"), parse.Node{Kind: 8, A: 0, B: 1, C: -1, Name: "b"}, parse.Node{Kind: 13, A: -1, B: -1, C: -1, List: []int{2}})},
		{"arr b[1]; out b[0];", tree(decls(arr("b", 1)), num(0), parse.Node{Kind: 3, A: 0, B: -1, C: -1, Name: "b"}, parse.Node{Kind: 11, A: 1, B: -1, C: -1}, parse.Node{Kind: 13, A: -1, B: -1, C: -1, List: []int{2}})},
	} {
		if y, at, e := Read(x.text); e != 0 || at != 0 || !same(y, x.want) {
			t.Errorf("Read(%q) = %v, %d, %d, want %v", x.text, told(y), at, e, told(x.want))
		}
		checkRead(t, x.text, 0, 0)
	}
}

// TestForms has texts in which no word begins at a byte, and words that can't stand where they do: the place is told, ahead of Right's errors.
func TestForms(t *testing.T) {
	for _, x := range []struct {
		text string
		at   int
	}{
		{"?", 0}, {"a = 1; ?", 7}, {"var a; arr a[33]; !", 18}, {"out 007;", 4}, {"var abcdefghi;", 4}, {"out x; é", 7}, {strings.Repeat(" ", 3999) + "?", 3999},
		{"a = = 1;", 2}, {"a = 1", 3}, {"var a; a = 1", 6}, {"var a; var a; out", 7}, {"arr a[33]; }", 6}, {"arr a[1001]; }", 6}, {"out x; out y; in", 6}, {"arr a[1]; a = 1; var b;", 10}, {"var in;", 1}, {"arr a[-1];", 3}, {"while 1 {", 3}, {"var", 1}, {"else", 0},
	} {
		checkRead(t, x.text, x.at, api.ErrForm)
	}
}

// TestGreat has texts that are beyond chapter 15's and 16's limits, whatever else is wrong with them.
func TestGreat(t *testing.T) {
	for _, text := range []string{
		strings.Repeat(" ", 4001), strings.Repeat("?", 4001), "a = 1;" + strings.Repeat(" ", 3995), strings.Repeat("a=1;", 1001),
		strings.Repeat("out x;", 501), "arr a[1001];", "arr a[4294967295]; out a;", "var a; var a; arr b[1001];", "out " + strings.Repeat("(", 60) + "x" + strings.Repeat(")", 60) + ";",
	} {
		checkRead(t, text, 0, api.ErrSize)
	}
	checkRead(t, strings.Repeat("out x;", 498), 0, api.ErrName)
	checkRead(t, "arr a[1000];", 0, api.ErrSize)
}

// TestWrong has programs that aren't right: each of Right's errors is told at 0, whichever word is at fault.
func TestWrong(t *testing.T) {
	ahead := "var a; arr b[3]; out a; b[a] = a; if b[1] { a = in; } else { exit a; } "
	for text, want := range map[string]api.Errno{
		"var a; var a;": 9, "var a; var b; var c; arr b[2]; out c;": 9, "arr a[1]; out 1; a = 2; ": 11, "arr a[0];": 4, "arr a[33];": 4, "var v; arr a[32]; arr b[1000]; out v;": 4, written(vars(17)): 4, written(vars(16)): 0, written(arrs(1, 2, 3, 4, 5)): 4, written(arrs(1, 2, 3, 4)): 0,
		ahead: 0, ahead + "out c;": 10, ahead + "c = 1;": 10, ahead + "c[1] = 1;": 10, ahead + "out c[1];": 10, ahead + "out b;": 11, ahead + "b = 1;": 11, ahead + "a[1] = 1;": 11, ahead + "out a[1];": 11,
	} {
		checkText(t, text, want)
	}
}

// TestDrawnTexts has drawn programs, of which enough are of each answer.
func TestDrawnTexts(t *testing.T) {
	var r draws = 172
	some := map[api.Errno]int{}
	for range 6000 {
		text := drawnText(&r, 6)
		some[checkPlainRead(t, text)]++
		if x, _, e := parse.Read(text); e == 0 {
			checkPlain(t, x)
		}
		cut := text[:r.below(len(text)+1)]
		some[checkPlainRead(t, cut)]++
	}
	for _, e := range []api.Errno{0, 2, 4, 9, 10, 11} {
		if some[e] < 300 {
			t.Errorf("there were %d texts alone of the answer %d: %v", some[e], e, some)
		}
	}
	for range 1000 {
		if text := drawnText(&r, 0); strings.Count(text, "var ") <= 16 && len(text) <= 4000 {
			checkRead(t, text, 0, 0)
		}
	}
}

// TestDrawnBytes has drawn bytes, and programs with a byte set to another one.
func TestDrawnBytes(t *testing.T) {
	var r draws = 173
	for range 3000 {
		b := make([]byte, r.below(12))
		for i := range b {
			b[i] = byte(r.below(256))
		}
		checkPlainRead(t, string(b))
		text := []byte(drawnText(&r, 10))
		if len(text) > 0 {
			text[r.below(len(text))] = byte(r.below(128))
			checkPlainRead(t, string(text))
		}
	}
}
