package parse

import (
	"strings"
	"testing"

	"corral/lex"
)

// 16.2, ErrForm

// TestLexFaults has texts in which a byte is none of a word: the byte's place is told ahead of all else.
func TestLexFaults(t *testing.T) {
	checkFault(t, "?", 0)
	checkFault(t, "a ?", 2)
	checkFault(t, "a = 1; ?", 7)
	checkFault(t, "= = = ?", 6)
	checkFault(t, "else out } 007", 11)
	checkFault(t, "out 1;\nout 4294967296;", 11)
	checkFault(t, "var abcdefghi;", 4)
	checkFault(t, "arr a[1001]; out 1 ? 2;", 19)
	checkFault(t, "arr a[01];", 6)
	checkFault(t, "out A;", 4)
	checkFault(t, "out 1; ; ; é", 11)
	checkFault(t, "out "+strings.Repeat("(", 200)+"?", 204)
	checkFault(t, strings.Repeat("out 1;", 501)+"?", 3006)
	checkFault(t, strings.Repeat(" ", 3999)+"?", 3999)
	checkFault(t, ";"+strings.Repeat(" ", 3998)+"\xff", 3999)
}

// TestFaults has words that can't stand there: their numbers are written out.
func TestFaults(t *testing.T) {
	for _, x := range []struct {
		text string
		at   int
	}{
		// The first one.
		{"1", 0}, {";", 0}, {"=", 0}, {"}", 0}, {"{", 0}, {"(", 0}, {")", 0}, {"[", 0}, {"]", 0}, {"else", 0}, {"in", 0}, {"-", 0}, {"+", 0}, {"==", 0}, {"else { }", 0}, {"{ }", 0}, {"in = 1;", 0}, {"1 = 1;", 0}, {"; out 1;", 0}, {"(a) = 1;", 0}, {"-a = 1;", 0},
		// One in the middle.
		{"a = = 1;", 2}, {"a = 1 2;", 3}, {"a = 1; 2;", 4}, {"out 1 out 2;", 2}, {"out 1; out;", 4}, {"a == 1;", 1}, {"a + 1;", 1}, {"a;", 1}, {"a 1;", 1}, {"a b = 1;", 1}, {"a[1];", 4}, {"a[1] 2;", 4}, {"a[1]] = 2;", 4}, {"a[] = 1;", 2}, {"a[1 = 2;", 3}, {"out a[];", 3}, {"out a[1;", 4}, {"out a 1;", 2}, {"out (1;", 3}, {"out ();", 2}, {"out 1);", 2}, {"out (1));", 4}, {"out (1];", 3}, {"out a[1);", 4}, {"out 1 + ;", 3}, {"out + 1;", 1}, {"out * 1;", 1}, {"out 1 + * 2;", 3}, {"out 1 - + 2;", 3}, {"out - ;", 2}, {"out 1 -;", 3}, {"out (a)[1];", 4}, {"out 1[2];", 2}, {"out in[1];", 2}, {"out in in;", 2}, {"out a[1][2];", 5}, {"out a = 1;", 2}, {"out 1 = 1;", 2}, {"a[1][2] = 3;", 4}, {"a = b = c;", 3},
		{"if 1 out 2;", 2}, {"if { }", 1}, {"if 1 { } else out 2;", 5}, {"if 1 { } else if 2 { }", 5}, {"if 1 { } else { } else { }", 7}, {"while 1 { } else { }", 4}, {"while 1 out 2;", 2}, {"while { }", 1}, {"if 1; { }", 2}, {"if 1 { };", 4}, {"while 1 { };", 4}, {"if 1 { { } }", 3}, {"if 1 { ; }", 3}, {"if 1 { else { } }", 3}, {"if 1 { } }", 4}, {"if 1 { a = 1 }", 6}, {"while a { out 1; } }", 7}, {"else", 0}, {"out 1; else { }", 3}, {"if 1 2 { }", 2},
		// The last one.
		{"a = 1; }", 4}, {"a = 1 }", 3}, {"out 1; ;", 3}, {"var a; ;", 3}, {"out 1; in", 3}, {"out 1; 5", 3}, {"arr a[1]; ]", 6},
		// Of three sums that are compared, the word at which it can't go on.
		{"out a < b < c;", 4}, {"out a == b == c;", 4}, {"out a < b == c;", 4}, {"out a == b < c;", 4}, {"out a + 1 < b * 2 < c;", 8}, {"if a < b < c { }", 4}, {"x[a < b < c] = 1;", 5}, {"out (a < b < c);", 5}, {"a < b < c", 1},
		// A key where a name is wanted.
		{"var in;", 1}, {"var if;", 1}, {"arr out[3];", 1}, {"arr var[3];", 1}, {"out if;", 1}, {"out exit;", 1}, {"out else;", 1}, {"a = out;", 2}, {"a = var;", 2}, {"a[while] = 1;", 2}, {"out -arr;", 2}, {"out (if);", 2}, {"out a + exit 1;", 3}, {"while while { }", 1},
		// A name, a number or a sign where another kind is wanted.
		{"arr a[x];", 3}, {"arr a[in];", 3}, {"arr a[-1];", 3}, {"arr a[];", 3}, {"arr a[1 + 1];", 4}, {"arr a[(1)];", 3}, {"arr a;", 2}, {"arr a 3;", 2}, {"arr [3];", 1}, {"arr 3[3];", 1}, {"arr a[3] = 1;", 5}, {"arr a[3", 4}, {"var 1;", 1}, {"var ;", 1}, {"var a[3];", 2}, {"var a b;", 2}, {"var var;", 1}, {"var a = 1;", 2}, {"arr a[3]", 5},
		// A sign behind the end of a statement.
		{"out 1;;", 3}, {"out 1; = 2;", 3}, {"a = 1; + 2;", 4}, {"a = 1; < 2;", 4}, {"exit 1; )", 3}, {"exit 1; [1];", 3}, {"if 1 { } ;", 4}, {"while 1 { } - 1;", 4},
		// A declaration behind a statement.
		{"a = 1; var b;", 4}, {"out 1; arr b[1];", 3}, {"var a; out 1; var b;", 6}, {"if 1 { } var b;", 4}, {"if 1 { var b; }", 3}, {"while 1 { arr b[1]; }", 3}, {"if 1 { } else { var b; }", 6}, {"while 1 { out 1; var b; }", 6},
		// A } too many, and a { without its }.
		{"}", 0}, {"out 1; }", 3}, {"if 1 { } }", 4}, {"if 1 { } else { } }", 7}, {"while 1 { while 2 { } } } out 1;", 8}, {"if 1 {", 3}, {"if 1 { out 1;", 6}, {"while 1 { if 2 { }", 7}, {"if 1 { } else {", 6}, {"while 1 {", 3},
	} {
		checkFault(t, x.text, x.at)
		checkFault(t, "\n "+x.text+" \n", x.at) // words are counted, not bytes
	}
}

// TestMissing has texts that end where a word is missing: as many as there are words is told.
func TestMissing(t *testing.T) {
	for _, x := range []struct {
		text string
		at   int
	}{
		{"var", 1}, {"var a", 2}, {"arr", 1}, {"arr a", 2}, {"arr a [", 3}, {"arr a [ 3", 4}, {"arr a [ 3 ]", 5}, {"a", 1}, {"a =", 2}, {"a = 1", 3}, {"a [", 2}, {"a [ 1", 3}, {"a [ 1 ]", 4}, {"a [ 1 ] =", 5}, {"a [ 1 ] = 2", 6},
		{"if", 1}, {"if 1", 2}, {"if 1 {", 3}, {"if 1 { } else", 5}, {"if 1 { } else {", 6}, {"while", 1}, {"while 1", 2}, {"while 1 {", 3}, {"out", 1}, {"out 1", 2}, {"exit", 1}, {"exit 1", 2}, {"out -", 2}, {"out (", 2}, {"out ( 1", 3}, {"out ( 1 )", 4}, {"out 1 +", 3}, {"out 1 <", 3}, {"out 1 ==", 3}, {"out 1 *", 3}, {"out a [", 3}, {"out a [ 1", 4}, {"out a [ 1 ]", 5}, {"out in", 2}, {"x = 1", 3}, {"x = ", 2},
		{"var a; var", 4}, {"out 1; out", 4}, {"out 1; a", 4},
	} {
		checkFault(t, x.text, x.at)
		checkFault(t, x.text+"\n  ", x.at)
	}
}

// cut is a program of all parts, and wholes is behind how many of its words it is a program too.
const cut = "var x ; arr t [ 3 ] ; x = in ; while x < 3 { t [ x ] = x * ( x - 1 ) ; } if - x == 3 { out t [ 2 ] ; } else { exit x ; }"

var wholes = []int{0, 3, 9, 13, 32, 45, 51}

// TestCut cuts a program off behind each of its words.
func TestCut(t *testing.T) {
	l := strings.Fields(cut)
	whole := map[int]bool{}
	for _, n := range wholes {
		whole[n] = true
	}
	for n := range len(l) + 1 {
		text := strings.Join(l[:n], " ")
		if whole[n] {
			checkFits(t, text)
		} else {
			checkFault(t, text, n)
		}
	}
}

// someWords are one of each kind, and each key and sign.
var someWords = strings.Fields("a 7 var arr if else while out in exit { } [ ] ( ) ; = < + - * / % ==")

// TestEachWord sets each of a program's words to each other one, adds each one at each place, and takes each one away.
func TestEachWord(t *testing.T) {
	l := strings.Fields(cut)
	for at := range len(l) + 1 {
		ahead, behind := strings.Join(l[:at], " "), strings.Join(l[at:], " ")
		for _, w := range someWords {
			checkPlain(t, words(ahead, w, behind))
			if at < len(l) {
				checkPlain(t, words(ahead, w, strings.Join(l[at+1:], " ")))
			}
		}
		if at < len(l) {
			checkPlain(t, words(ahead, strings.Join(l[at+1:], " ")))
		}
	}
}

// TestFewWords has all texts of up to three words.
func TestFewWords(t *testing.T) {
	for _, one := range someWords {
		checkPlain(t, one)
		for _, two := range someWords {
			checkPlain(t, words(one, two))
			for _, three := range someWords {
				checkPlain(t, words(one, two, three))
			}
		}
	}
}

// TestDrawnWords has drawn words, and drawn programs one of whose words is another one.
func TestDrawnWords(t *testing.T) {
	var r draws = 164
	for range 5000 {
		var l []string
		for range r.below(14) {
			l = append(l, someWords[r.below(len(someWords))])
		}
		checkPlain(t, strings.Join(l, " "))
		for _, first := range []string{"out", "a =", "a [", "if 1 {", "while a", "var a ; arr"} {
			checkPlain(t, words(first, strings.Join(l, " ")))
		}
	}
	for range 3000 {
		text, _ := drawn(&r)
		l := strings.Fields(text)
		if len(l) > 0 {
			l[r.below(len(l))] = someWords[r.below(len(someWords))]
			checkPlain(t, strings.Join(l, " "))
		}
	}
}

// TestFirst holds that no word behind the one that can't stand there matters, and that with any words ahead of it alone something could be behind.
func TestFirst(t *testing.T) {
	for _, text := range []string{"a = = 1;", "out a < b < c;", "if 1 { } }", "var in;", "a = 1; var b;"} {
		_, at, _ := Read(text)
		l, _, _ := lex.Read(text)
		ahead := ""
		for _, w := range l[:at+1] {
			ahead = words(ahead, w.Text)
		}
		for _, w := range someWords {
			checkFault(t, words(ahead, w), at)
			checkFault(t, words(ahead, w, w), at)
		}
	}
}
