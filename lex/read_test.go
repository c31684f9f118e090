package lex

import (
	"strings"
	"testing"
)

// 15.1

// TestExample has the chapter's example.
func TestExample(t *testing.T) {
	checkWords(t, "a=1", n("a"), s("="), d("1", 1))
}

// TestWhole has a text of all kinds of words.
func TestWhole(t *testing.T) {
	checkWords(t, "var a;arr b2[10];\nif a<3{out -b2[a]*(in+0)%7/a;}else{while 1==a{exit 4294967295;}}",
		k("var"), n("a"), s(";"), k("arr"), n("b2"), s("["), d("10", 10), s("]"), s(";"),
		k("if"), n("a"), s("<"), d("3", 3), s("{"), k("out"), s("-"), n("b2"), s("["), n("a"), s("]"), s("*"), s("("), k("in"), s("+"), d("0", 0), s(")"), s("%"), d("7", 7), s("/"), n("a"), s(";"), s("}"),
		k("else"), s("{"), k("while"), d("1", 1), s("=="), n("a"), s("{"), k("exit"), d("4294967295", 4294967295), s(";"), s("}"), s("}"))
}

// TestNone has texts without a word.
func TestNone(t *testing.T) {
	for _, text := range []string{"", " ", "\n", "  ", "\n\n", " \n", "\n ", "  \n \n  ", strings.Repeat(" ", 4000), strings.Repeat("\n", 4000), strings.Repeat(" \n", 2000)} {
		checkWords(t, text)
	}
}

// TestSigns has each sign alone, and with blanks and line ends around.
func TestSigns(t *testing.T) {
	if len(allSigns) != 15 {
		t.Fatalf("there are %d signs", len(allSigns))
	}
	for _, sign := range allSigns {
		for _, text := range []string{sign, " " + sign, sign + " ", "\n" + sign + "\n", "  \n" + sign} {
			checkWords(t, text, s(sign))
		}
	}
}

// TestSignPairs has each two signs with nothing between, which are these two, but for those that the longest one makes others of.
func TestSignPairs(t *testing.T) {
	for _, one := range allSigns {
		for _, two := range allSigns {
			switch one + two {
			case "==":
				checkWords(t, one+two, s("=="))
			case "===":
				checkWords(t, one+two, s("=="), s("="))
			default:
				checkWords(t, one+two, s(one), s(two))
			}
			checkWords(t, one+" "+two, s(one), s(two))
		}
	}
}

// TestEquals has many = , with nothing between and with a blank.
func TestEquals(t *testing.T) {
	checkWords(t, "=", s("="))
	checkWords(t, "==", s("=="))
	checkWords(t, "===", s("=="), s("="))
	checkWords(t, "====", s("=="), s("=="))
	checkWords(t, "=====", s("=="), s("=="), s("="))
	checkWords(t, "= =", s("="), s("="))
	checkWords(t, "=\n=", s("="), s("="))
	checkWords(t, "== =", s("=="), s("="))
	checkWords(t, "= ==", s("="), s("=="))
	checkWords(t, "=<", s("="), s("<"))
	checkWords(t, "<=", s("<"), s("="))
	checkWords(t, "<==", s("<"), s("=="))
	checkWords(t, "==<", s("=="), s("<"))
	checkWords(t, "=-=", s("="), s("-"), s("="))
}

// TestSignBeside has each sign right behind and right ahead of a name, of a number, and of a name with a meaning.
func TestSignBeside(t *testing.T) {
	for _, sign := range allSigns {
		for _, p := range []Piece{n("a"), n("x9"), n("abcdefgh"), d("0", 0), d("7", 7), d("4294967295", 1<<32-1), k("in"), k("while")} {
			checkWords(t, sign+p.Text, s(sign), p)
			checkWords(t, p.Text+sign, p, s(sign))
			checkWords(t, p.Text+sign+p.Text, p, s(sign), p)
			checkWords(t, sign+p.Text+sign, s(sign), p, s(sign))
		}
	}
}

// TestNames has names of one letter, of more, of eight, and of digits too.
func TestNames(t *testing.T) {
	for _, c := range allLetters {
		checkWords(t, string(c), n(string(c)))
		checkWords(t, string(c)+"0", n(string(c)+"0"))
		checkWords(t, string(c)+"x9"+string(c), n(string(c)+"x9"+string(c)))
	}
	for _, text := range []string{"ab", "abc", "zz", "a0", "a00", "a01", "z9", "a1b2c3d4", "abcdefgh", "zzzzzzzz", "a0000000", "a9999999", "abcdefg1", "a429496", "x1y", "e5", "b10"} {
		checkWords(t, text, n(text))
		checkWords(t, " \n"+text+"\n ", n(text))
	}
	checkWords(t, "a b", n("a"), n("b"))
	checkWords(t, "a\nb", n("a"), n("b"))
	checkWords(t, "abcdefgh abcdefgh", n("abcdefgh"), n("abcdefgh"))
	checkWords(t, "abcdefgh i", n("abcdefgh"), n("i"))
	checkWords(t, "a 1", n("a"), d("1", 1))
	checkWords(t, "1 a", d("1", 1), n("a"))
}

// TestLongNames has names of more than eight: no word begins where they begin.
func TestLongNames(t *testing.T) {
	for _, text := range []string{"abcdefghi", "zzzzzzzzz", "a00000000", "a12345678", "abcdefgh1", "abcdefghij", "a123456789012", "whileelse", "whilewhile", strings.Repeat("a", 4000), "a" + strings.Repeat("1", 3999)} {
		checkFault(t, text, 0)
	}
	checkFault(t, " abcdefghi", 1)
	checkFault(t, "\n\n abcdefghi", 3)
	checkFault(t, "=abcdefghi", 1)
	checkFault(t, "a=abcdefghi;", 2)
	checkFault(t, "abcdefgh abcdefghi", 9)
	checkFault(t, "abcdefghi ?", 0)
	checkFault(t, "abcdefghi\xff", 0)
}

// TestNumberedNames has what begins with a digit, and goes on with letters: it is none.
func TestNumberedNames(t *testing.T) {
	for _, text := range []string{"9x", "0a", "1z", "10a", "1a1", "1aaaaaaa", "0x10", "1e5", "12ab34", "0b1", "0o7", "1if", "4294967295a", "4294967296a", "00a", "7out", strings.Repeat("1", 3999) + "a"} {
		checkFault(t, text, 0)
		checkFault(t, "a "+text[:min(len(text), 3998)], 2)
	}
	checkFault(t, "+9x", 1)
	checkFault(t, "1 9x 1", 2)
}

// TestCapitals has capitals, which no word has.
func TestCapitals(t *testing.T) {
	for c := byte('A'); c <= 'Z'; c++ {
		checkFault(t, string(c), 0)
		checkFault(t, "a"+string(c), 1)
		checkFault(t, string(c)+"a", 0)
		checkFault(t, "ab"+string(c)+"c", 2)
		checkFault(t, "7"+string(c), 1)
		checkFault(t, "abcdefgh"+string(c), 8)
	}
	checkFault(t, "Var", 0)
	checkFault(t, "VAR", 0)
	checkFault(t, "vaR", 2)
	checkFault(t, "ifA", 2)
	checkFault(t, "1E5", 1)
	checkFault(t, "0X1", 1)
}

// TestKeyWords has each of the names that mean something, alone, with more, with less, and two of them.
func TestKeyWords(t *testing.T) {
	for _, key := range allKeys {
		checkWords(t, key, k(key))
		checkWords(t, " "+key+"\n", k(key))
		checkWords(t, key+"s", n(key+"s"))
		checkWords(t, "s"+key, n("s"+key))
		checkWords(t, key+"1", n(key+"1"))
		checkWords(t, key+"0", n(key+"0"))
		checkWords(t, key[1:], n(key[1:]))
		checkWords(t, key[:len(key)-1], n(key[:len(key)-1]))
		checkWords(t, key+";"+key, k(key), s(";"), k(key))
		checkFault(t, "1"+key, 0)
		for _, other := range allKeys {
			checkWords(t, key+" "+other, k(key), k(other))
			if both := key + other; len(both) > 8 {
				checkFault(t, both, 0)
			} else {
				checkWords(t, both, n(both))
			}
		}
	}
}

// TestNumbers has numbers up to the greatest one.
func TestNumbers(t *testing.T) {
	for _, x := range []struct {
		text string
		v    uint32
	}{
		{"0", 0}, {"1", 1}, {"2", 2}, {"9", 9}, {"10", 10}, {"11", 11}, {"99", 99}, {"100", 100}, {"101", 101}, {"255", 255}, {"256", 256}, {"4000", 4000}, {"65536", 65536}, {"1000000", 1000000},
		{"999999999", 999999999}, {"1000000000", 1000000000}, {"1234567890", 1234567890}, {"2147483647", 1<<31 - 1}, {"2147483648", 1 << 31}, {"2147483649", 1<<31 + 1}, {"4294967294", 1<<32 - 2}, {"4294967295", 1<<32 - 1},
	} {
		checkWords(t, x.text, d(x.text, x.v))
		checkWords(t, "\n "+x.text+" \n", d(x.text, x.v))
		checkWords(t, x.text+" "+x.text, d(x.text, x.v), d(x.text, x.v))
		checkWords(t, x.text+"\n0", d(x.text, x.v), d("0", 0))
		checkWords(t, "-"+x.text, s("-"), d(x.text, x.v))
	}
	for c := range 10 {
		text := string([]byte{byte('0' + c)})
		checkWords(t, text, d(text, uint32(c)))
	}
	checkWords(t, "0 0 7", d("0", 0), d("0", 0), d("7", 7))
}

// TestGreatNumbers has numbers beyond the greatest one: no word begins where they begin.
func TestGreatNumbers(t *testing.T) {
	for _, text := range []string{
		"4294967296", "4294967297", "4294967300", "4300000000", "5000000000", "8589934592", "9999999999", "10000000000", "42949672950", "42949672960", "12345678901", "99999999999",
		"9223372036854775807", "9223372036854775808", "18446744073709551615", "18446744073709551616", "18446744073709551617", "18446744078004518912", "99999999999999999999", "340282366920938463463374607431768211457", strings.Repeat("9", 4000), "1" + strings.Repeat("0", 3999),
	} {
		checkFault(t, text, 0)
		if len(text) < 100 {
			checkFault(t, "a = "+text+";", 4)
			checkFault(t, "-"+text, 1)
			checkFault(t, text+" 1", 0)
			checkFault(t, text+"?", 0)
		}
	}
}

// TestNoughts has numbers with noughts ahead: no word begins where they begin.
func TestNoughts(t *testing.T) {
	for _, text := range []string{"00", "01", "007", "000", "0000000000", "09", "010", "00000000001", "04294967295", "04294967296", strings.Repeat("0", 4000)} {
		checkFault(t, text, 0)
		if len(text) < 100 {
			checkFault(t, "1 "+text, 2)
			checkFault(t, "="+text+";", 1)
			checkFault(t, text+" a", 0)
		}
	}
}

// TestBehindNumber has each byte right behind a number: a letter makes it none, another one doesn't.
func TestBehindNumber(t *testing.T) {
	for c := range 256 {
		b := string([]byte{byte(c)})
		switch {
		case c >= 'a' && c <= 'z':
			checkFault(t, "10"+b, 0)
			checkFault(t, "0"+b, 0)
			checkFault(t, ";10"+b+";", 1)
		case c >= '0' && c <= '9':
			checkWords(t, "10"+b, d("10"+b, uint32(100+c-'0')))
			checkFault(t, "0"+b, 0)
		case c == ' ' || c == '\n':
			checkWords(t, "10"+b, d("10", 10))
			checkWords(t, "10"+b+"1", d("10", 10), d("1", 1))
		case strings.Contains("{}[]();=<+-*/%", b):
			checkWords(t, "10"+b, d("10", 10), s(b))
		default:
			checkFault(t, "10"+b, 2)
			checkFault(t, "0"+b, 1)
			checkFault(t, "4294967295"+b, 10)
		}
	}
}

// TestBytes has each byte alone, behind a word, ahead of a word, and between two.
func TestBytes(t *testing.T) {
	for c := range 256 {
		b := string([]byte{byte(c)})
		if strings.Contains(allLetters+"0123456789{}[]();=<+-*/% \n", b) {
			checkPlain(t, b)
			if _, _, e := Read(b); e != 0 {
				t.Errorf("Read(%q) = %d", b, e)
			}
		} else {
			checkFault(t, b, 0)
			checkFault(t, b+b, 0)
			checkFault(t, "a"+b, 1)
			checkFault(t, "a "+b, 2)
			checkFault(t, b+"a", 0)
			checkFault(t, ";"+b+";", 1)
			checkFault(t, " "+b, 1)
			checkFault(t, "\n"+b, 1)
			checkFault(t, "if"+b+"if", 2)
			checkFault(t, "==="+b, 3)
		}
		for _, one := range []string{"", "a", "7", ";", "=", "if", "abcdefgh", "4294967295", " ", "0"} {
			for _, two := range []string{"", "a", "7", ";", "=", "if", "abcdefgh", "4294967295", "\n", "0"} {
				checkPlain(t, one+b+two)
			}
		}
	}
}

// TestLetters has letters of more bytes than one, and what looks like a blank or a line end: no word begins there.
func TestLetters(t *testing.T) {
	for _, x := range []string{"\t", "\r", "\v", "\f", "\x00", "\x7f", "\u0085", "\u00a0", "\u2028", "\u3000", "\ufeff", "é", "ä", "ß", "я", "名", "𝒂", "٣", "１", "ａ", "－", "\x80", "\xff", "\xc3", "\xe5\x90"} {
		checkFault(t, x, 0)
		checkFault(t, "a"+x, 1)
		checkFault(t, "1"+x+"1", 1)
		checkFault(t, "a "+x+" b", 2)
		checkFault(t, "; "+x, 2)
		checkFault(t, x+"a", 0)
	}
	checkFault(t, "a\r\nb", 1)
	checkFault(t, "caf\u00e9", 3)
	for _, x := range []string{"!", "\"", "#", "$", "&", "'", ",", ".", ":", ">", "?", "@", "\\", "^", "_", "`", "|", "~"} {
		checkFault(t, x, 0)
		checkFault(t, "a"+x+"b", 1)
		checkFault(t, "1"+x+"0", 1)
	}
	checkFault(t, "1_0", 1)
	checkFault(t, "1.5", 1)
	checkFault(t, "a!=b", 1)
	checkFault(t, "a>=b", 1)
}

// TestPlaces has the place that is told: the first one at which no word begins, wherever it is.
func TestPlaces(t *testing.T) {
	for _, x := range []struct {
		text string
		at   int
	}{
		{"?", 0}, {"?a", 0}, {"??", 0}, {"? 007", 0}, {"a?", 1}, {"a ?", 2}, {"a ? b", 2}, {"  ?", 2}, {"\n?", 1}, {" \n \n ?", 5}, {"a b c d ?", 8}, {"a=1;?", 4}, {"a=1;\n\n?", 6},
		{"a=1?;b=007;?", 3}, {"a=007;b=?", 2}, {"a=9x;abcdefghi", 2}, {"abcdefghi 9x", 0}, {"while a1<=10{ out in;\n}?", 23}, {"while a1<=10{ out in;\n} 01", 24}, {"a ?\n\n", 2}, {"a 00   ", 2},
	} {
		checkFault(t, x.text, x.at)
	}
	for _, size := range []int{1, 40, 4000} {
		text := strings.Repeat("a b\n", 1000)[:size]
		for at := 0; at < size; at += 1 + size/100 {
			checkFault(t, text[:at]+"?"+text[at+1:], at)
		}
	}
	for _, at := range []int{0, 1, 7, 3991, 3999} {
		checkFault(t, strings.Repeat(" ", at)+"?", at)
		checkFault(t, strings.Repeat(";", at)+"\t"+strings.Repeat(";", 3999-at), at)
	}
	checkFault(t, strings.Repeat(" ", 3991)+"abcdefghi", 3991)
	checkFault(t, strings.Repeat(" ", 3990)+"4294967296", 3990)
	checkFault(t, strings.Repeat("\n", 3998)+"1a", 3998)
}

// TestSizes has texts up to 4000 bytes, which are read, and of more, which aren't, whatever stands in them.
func TestSizes(t *testing.T) {
	for _, x := range []struct {
		of    string
		words int
	}{{" ", 0}, {"\n", 0}, {";", 1}, {"a\n", 1}, {"1+", 2}, {"==", 1}, {"abcdefg ", 1}, {"in\n=1=;\n", 5}} {
		text := strings.Repeat(x.of, 4000/len(x.of))
		l, at, e := Read(text)
		if e != 0 || at != 0 || len(l) != x.words*len(text)/len(x.of) {
			t.Errorf("Read of %d bytes of %q = %d words, %d, %d", len(text), x.of, len(l), at, e)
		}
		checkPlain(t, text)
		checkPlain(t, text[:3999])
		if _, at, e := Read(text[:3999]); at != 0 || e != 0 {
			t.Errorf("Read of 3999 bytes of %q = %d, %d", x.of, at, e)
		}
		for _, more := range []string{" ", "\n", "a", ";", "?", "\xff", text, strings.Repeat(text, 100)} {
			checkLong(t, text+more)
			checkLong(t, more+text)
		}
	}
	for _, c := range []string{"?", "A", "\t", "\xff", "00", "9x", "abcdefghi"} { // ErrSize comes ahead of ErrForm
		checkLong(t, strings.Repeat(c, 4001))
		checkLong(t, c+strings.Repeat(" ", 4000))
		checkLong(t, strings.Repeat(" ", 4000)+c)
		checkFault(t, c+strings.Repeat(" ", 4000-len(c)), 0)
		checkFault(t, c+strings.Repeat(" ", 3999-len(c)), 0)
		checkFault(t, strings.Repeat(" ", 4000-len(c))+c, 4000-len(c))
	}
	checkWords(t, strings.Repeat(" ", 3992)+"abcdefgh", n("abcdefgh"))
	checkWords(t, strings.Repeat(" ", 3990)+"4294967295", d("4294967295", 1<<32-1))
	checkWords(t, strings.Repeat("\n", 3999)+"=", s("="))
	checkWords(t, strings.Repeat("\n", 3998)+"==", s("=="))
	checkWords(t, "in"+strings.Repeat("\n", 3998), k("in"))
	for _, text := range []string{strings.Repeat("a", 4001), strings.Repeat("1", 4001), strings.Repeat("=", 4001), strings.Repeat("a ", 1<<20)} {
		checkLong(t, text)
	}
}

// TestFields has which fields a word of each kind has.
func TestFields(t *testing.T) {
	for _, x := range []struct {
		text string
		want Piece
	}{
		{"abc", Piece{Kind: 'n', Text: "abc", V: 0}},
		{"a12", Piece{Kind: 'n', Text: "a12", V: 0}},
		{"12", Piece{Kind: '0', Text: "12", V: 12}},
		{"0", Piece{Kind: '0', Text: "0", V: 0}},
		{"exit", Piece{Kind: 'k', Text: "exit", V: 0}},
		{"in", Piece{Kind: 'k', Text: "in", V: 0}},
		{"%", Piece{Kind: 's', Text: "%", V: 0}},
		{"==", Piece{Kind: 's', Text: "==", V: 0}},
	} {
		checkWords(t, x.text, x.want)
		checkWords(t, "5 "+x.text+" 6", Piece{'0', "5", 5}, x.want, Piece{'0', "6", 6}) // no field is left of a word ahead
	}
}
