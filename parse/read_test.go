package parse

import (
	"slices"
	"strconv"
	"strings"
	"testing"
)

// 16.1, and the trees of 16.2

// TestKinds has the kinds' numbers.
func TestKinds(t *testing.T) {
	kinds := []int{Num, Var, Get, In, Neg, Bin, Set, Put, If, While, Out, Exit, Block}
	for i, kind := range kinds {
		if kind != i+1 {
			t.Errorf("the kind %d is %d", i+1, kind)
		}
	}
}

// TestExample has the chapter's example.
func TestExample(t *testing.T) {
	text := "var a; a = 1 + 2 * 3;"
	checkRead(t, text, []Decl{{"a", -1}}, num(1), num(2), num(3), bin(5, 1, 2), bin(3, 0, 3), set("a", 4), block(5))
	if x, _, _ := Read(text); Show(x) != "var a ; a = ( 1 + ( 2 * 3 ) ) ;" {
		t.Errorf("Show = %q", Show(x))
	}
}

// TestEmpty has texts without words.
func TestEmpty(t *testing.T) {
	for _, text := range []string{"", " ", "\n", " \n \n", strings.Repeat(" ", 4000)} {
		checkRead(t, text, nil, block())
		if x, _, _ := Read(text); len(x.Decls) != 0 || len(x.Nodes) != 1 || x.Body != 0 || Show(x) != "" {
			t.Errorf("Read(%q) = %v, shown as %q", short(text), x, Show(x))
		}
	}
}

// TestDeclarations has each kind of declaration alone, several, and statements behind.
func TestDeclarations(t *testing.T) {
	checkRead(t, "var a;", []Decl{{"a", -1}}, block())
	checkRead(t, "var abcdefgh;", []Decl{{"abcdefgh", -1}}, block())
	for _, size := range []int{0, 1, 2, 7, 31, 32, 33, 255, 256, 999, 1000} {
		checkRead(t, "arr a["+strconv.Itoa(size)+"];", []Decl{{"a", size}}, block())
	}
	checkRead(t, "var a; var b; arr c[3]; var d; arr e[0];", []Decl{{"a", -1}, {"b", -1}, {"c", 3}, {"d", -1}, {"e", 0}}, block())
	checkRead(t, "arr z9[1000];arr y[1];var x;", []Decl{{"z9", 1000}, {"y", 1}, {"x", -1}}, block())
	checkRead(t, "var a; var a; arr a[2];", []Decl{{"a", -1}, {"a", -1}, {"a", 2}}, block()) // which names may be, chapter 17 says
	checkRead(t, "var b; out 1;", []Decl{{"b", -1}}, num(1), out(0), block(1))
	checkRead(t, strings.Repeat("var a;", 600), slices.Repeat([]Decl{{"a", -1}}, 600), block())
	checkRead(t, strings.Repeat("arr a[9];", 400), slices.Repeat([]Decl{{"a", 9}}, 400), block())
}

// TestStatements has each kind of statement alone.
func TestStatements(t *testing.T) {
	checkRead(t, "a = 1;", nil, num(1), set("a", 0), block(1))
	checkRead(t, "a[1] = 2;", nil, num(1), num(2), put("a", 0, 1), block(2))
	checkRead(t, "if 1 { }", nil, num(1), block(), branch(0, 1, -1), block(2))
	checkRead(t, "if 1 { } else { }", nil, num(1), block(), block(), branch(0, 1, 2), block(3))
	checkRead(t, "while 1 { }", nil, num(1), block(), loop(0, 1), block(2))
	checkRead(t, "out 1;", nil, num(1), out(0), block(1))
	checkRead(t, "exit 1;", nil, num(1), exit(0), block(1))
}

// TestValues has each kind of value alone.
func TestValues(t *testing.T) {
	for _, v := range []uint32{0, 1, 9, 10, 1000, 1001, 1<<31 - 1, 1 << 31, 1<<32 - 2, 1<<32 - 1} {
		checkRead(t, "out "+strconv.FormatUint(uint64(v), 10)+";", nil, num(v), out(0), block(1))
	}
	for _, name := range []string{"a", "x1", "abcdefgh", "i", "ifs", "vars", "inn", "o"} {
		checkRead(t, "out "+name+";", nil, vr(name), out(0), block(1))
		checkRead(t, "out "+name+"[7];", nil, num(7), get(name, 0), out(1), block(2))
	}
	checkRead(t, "out in;", nil, in(), out(0), block(1))
	checkRead(t, "out -7;", nil, num(7), neg(0), out(1), block(2))
	checkRead(t, "out (7);", nil, num(7), out(0), block(1))
	checkRead(t, "out a[b[c[0]]];", nil, num(0), get("c", 0), get("b", 1), get("a", 2), out(3), block(4))
	checkRead(t, "out a[in + 1];", nil, in(), num(1), bin(3, 0, 1), get("a", 2), out(3), block(4))
	checkRead(t, "out a[1 < 2];", nil, num(1), num(2), bin(13, 0, 1), get("a", 2), out(3), block(4))
}

// TestSets has statements with expressions of more than one value, in each of their places.
func TestSets(t *testing.T) {
	checkRead(t, "a = b;", nil, vr("b"), set("a", 0), block(1))
	checkRead(t, "a = a + 1;", nil, vr("a"), num(1), bin(3, 0, 1), set("a", 2), block(3))
	checkRead(t, "a = b == c;", nil, vr("b"), vr("c"), bin(14, 0, 1), set("a", 2), block(3))
	checkRead(t, "a = b[c];", nil, vr("c"), get("b", 0), set("a", 1), block(2))
	checkRead(t, "a[b] = c;", nil, vr("b"), vr("c"), put("a", 0, 1), block(2))
	checkRead(t, "a[b + 1] = in * 2;", nil, vr("b"), num(1), bin(3, 0, 1), in(), num(2), bin(5, 3, 4), put("a", 2, 5), block(6))
	checkRead(t, "a[b[1]] = b[2];", nil, num(1), get("b", 0), num(2), get("b", 2), put("a", 1, 3), block(4))
	checkRead(t, "a[1 == 2] = 3 < 4;", nil, num(1), num(2), bin(14, 0, 1), num(3), num(4), bin(13, 3, 4), put("a", 2, 5), block(6))
	checkRead(t, "out 1 + 2;", nil, num(1), num(2), bin(3, 0, 1), out(2), block(3))
	checkRead(t, "exit 1 < 2;", nil, num(1), num(2), bin(13, 0, 1), exit(2), block(3))
	checkRead(t, "exit in;", nil, in(), exit(0), block(1))
}

// TestBlocks has blocks with and without statements, and one in another.
func TestBlocks(t *testing.T) {
	checkRead(t, "out 1; out 2; out 3;", nil, num(1), out(0), num(2), out(2), num(3), out(4), block(1, 3, 5))
	checkRead(t, "if 1 { out 2; }", nil, num(1), num(2), out(1), block(2), branch(0, 3, -1), block(4))
	checkRead(t, "if 1 { out 2; out 3; }", nil, num(1), num(2), out(1), num(3), out(3), block(2, 4), branch(0, 5, -1), block(6))
	checkRead(t, "if a { } else { out 2; }", nil, vr("a"), block(), num(2), out(2), block(3), branch(0, 1, 4), block(5))
	checkRead(t, "if a { out 1; } else { }", nil, vr("a"), num(1), out(1), block(2), block(), branch(0, 3, 4), block(5))
	checkRead(t, "if a { out 1; } else { out 2; }", nil, vr("a"), num(1), out(1), block(2), num(2), out(4), block(5), branch(0, 3, 6), block(7))
	checkRead(t, "while 1 { a = 2; }", nil, num(1), num(2), set("a", 1), block(2), loop(0, 3), block(4))
	checkRead(t, "while 1 { while 2 { } }", nil, num(1), num(2), block(), loop(1, 2), block(3), loop(0, 4), block(5))
	checkRead(t, "if 1 { if 2 { } else { } }", nil, num(1), num(2), block(), block(), branch(1, 2, 3), block(4), branch(0, 5, -1), block(6))
	checkRead(t, "if 1 { if 2 { } } else { }", nil, num(1), num(2), block(), branch(1, 2, -1), block(3), block(), branch(0, 4, 5), block(6))
	checkRead(t, "if 1 { } else { if 2 { } else { } }", nil, num(1), block(), num(2), block(), block(), branch(2, 3, 4), block(5), branch(0, 1, 6), block(7))
	checkRead(t, "if 1 { } if 2 { } else { } out 3;", nil, num(1), block(), branch(0, 1, -1), num(2), block(), block(), branch(3, 4, 5), num(3), out(7), block(2, 6, 8))
	checkRead(t, "while 1 { } a = 2;", nil, num(1), block(), loop(0, 1), num(2), set("a", 3), block(2, 4))
	checkRead(t, "while 1 { if 2 { out 3; } } exit 4;", nil, num(1), num(2), num(3), out(2), block(3), branch(1, 4, -1), block(5), loop(0, 6), num(4), exit(8), block(7, 9))
	checkRead(t, "if x < 3 { }", nil, vr("x"), num(3), bin(13, 0, 1), block(), branch(2, 3, -1), block(4))
	checkRead(t, "if (1) { }", nil, num(1), block(), branch(0, 1, -1), block(2))
}

// TestOperations has each operation with its number.
func TestOperations(t *testing.T) {
	for _, x := range []struct {
		sign string
		op   uint32
	}{{"+", 3}, {"-", 4}, {"*", 5}, {"/", 6}, {"%", 7}, {"<", 13}, {"==", 14}} {
		checkRead(t, "out 8 "+x.sign+" 9;", nil, num(8), num(9), bin(x.op, 0, 1), out(2), block(3))
		checkRead(t, "out a"+x.sign+"in;", nil, vr("a"), in(), bin(x.op, 0, 1), out(2), block(3))
		checkRead(t, "out (a "+x.sign+" 1);", nil, vr("a"), num(1), bin(x.op, 0, 1), out(2), block(3))
		checkRead(t, "out -a "+x.sign+" -1;", nil, vr("a"), neg(0), num(1), neg(2), bin(x.op, 1, 3), out(4), block(5))
		checkRead(t, "out a[1] "+x.sign+" b[2];", nil, num(1), get("a", 0), num(2), get("b", 2), bin(x.op, 1, 3), out(4), block(5))
	}
}

// TestFromLeft has sums and products of more than two.
func TestFromLeft(t *testing.T) {
	for _, l := range [][]string{{"+", "-"}, {"*", "/", "%"}} {
		for _, one := range l {
			for _, two := range l {
				a, b := opOf[one], opOf[two]
				checkRead(t, "out 1 "+one+" 2 "+two+" 3;", nil, num(1), num(2), bin(a, 0, 1), num(3), bin(b, 2, 3), out(4), block(5))
				checkRead(t, "out 1 "+one+" (2 "+two+" 3);", nil, num(1), num(2), num(3), bin(b, 1, 2), bin(a, 0, 3), out(4), block(5))
				checkRead(t, "out (1 "+one+" 2) "+two+" 3;", nil, num(1), num(2), bin(a, 0, 1), num(3), bin(b, 2, 3), out(4), block(5))
				checkRead(t, "out 1 "+one+" 2 "+two+" 3 "+one+" 4;", nil, num(1), num(2), bin(a, 0, 1), num(3), bin(b, 2, 3), num(4), bin(a, 4, 5), out(6), block(7))
			}
		}
	}
}

// TestRanks has products in sums, and sums that are compared.
func TestRanks(t *testing.T) {
	for _, plus := range []string{"+", "-"} {
		for _, times := range []string{"*", "/", "%"} {
			a, b := opOf[plus], opOf[times]
			checkRead(t, "out 1 "+plus+" 2 "+times+" 3;", nil, num(1), num(2), num(3), bin(b, 1, 2), bin(a, 0, 3), out(4), block(5))
			checkRead(t, "out 1 "+times+" 2 "+plus+" 3;", nil, num(1), num(2), bin(b, 0, 1), num(3), bin(a, 2, 3), out(4), block(5))
			checkRead(t, "out (1 "+plus+" 2) "+times+" 3;", nil, num(1), num(2), bin(a, 0, 1), num(3), bin(b, 2, 3), out(4), block(5))
			checkRead(t, "out 1 "+times+" (2 "+plus+" 3);", nil, num(1), num(2), num(3), bin(a, 1, 2), bin(b, 0, 3), out(4), block(5))
			checkRead(t, "out 1 "+times+" 2 "+plus+" 3 "+times+" 4;", nil, num(1), num(2), bin(b, 0, 1), num(3), num(4), bin(b, 3, 4), bin(a, 2, 5), out(6), block(7))
		}
	}
	for _, sign := range []string{"<", "=="} {
		op := opOf[sign]
		checkRead(t, "out 1 + 2 "+sign+" 3;", nil, num(1), num(2), bin(3, 0, 1), num(3), bin(op, 2, 3), out(4), block(5))
		checkRead(t, "out 1 "+sign+" 2 - 3;", nil, num(1), num(2), num(3), bin(4, 1, 2), bin(op, 0, 3), out(4), block(5))
		checkRead(t, "out 1 * 2 "+sign+" 3 % 4;", nil, num(1), num(2), bin(5, 0, 1), num(3), num(4), bin(7, 3, 4), bin(op, 2, 5), out(6), block(7))
		checkRead(t, "out 1 + 2 "+sign+" 3 + 4 * 5;", nil, num(1), num(2), bin(3, 0, 1), num(3), num(4), num(5), bin(5, 4, 5), bin(3, 3, 6), bin(op, 2, 7), out(8), block(9))
		checkRead(t, "out (1 "+sign+" 2) "+sign+" 3;", nil, num(1), num(2), bin(op, 0, 1), num(3), bin(op, 2, 3), out(4), block(5))
		checkRead(t, "out 1 "+sign+" (2 "+sign+" 3);", nil, num(1), num(2), num(3), bin(op, 1, 2), bin(op, 0, 3), out(4), block(5))
		checkRead(t, "out 1 + (2 "+sign+" 3) * 4;", nil, num(1), num(2), num(3), bin(op, 1, 2), num(4), bin(5, 3, 4), bin(3, 0, 5), out(6), block(7))
	}
}

// TestBrackets has brackets around all kinds of expressions, and around them again.
func TestBrackets(t *testing.T) {
	for _, inner := range []string{"1", "a", "in", "-1", "a[1]", "1 + 2", "1 < 2", "1 * 2 == 3", "- (1)"} {
		want, _, _ := Read("out " + inner + ";")
		for _, text := range []string{"out (" + inner + ");", "out ((" + inner + "));", "out(((" + inner + ")));", "out ( ( " + inner + "\n) );"} {
			x, at, e := Read(text)
			if e != 0 || at != 0 || !same(x, want) {
				t.Errorf("Read(%q) = %v, %d, %d, want %v", text, told(x), at, e, told(want))
			}
			checkPlain(t, text)
		}
	}
	checkRead(t, "a[(1)] = (2);", nil, num(1), num(2), put("a", 0, 1), block(2))
	checkRead(t, "out a[(1)];", nil, num(1), get("a", 0), out(1), block(2))
}

// TestNegs has - ahead of values, two of them, and behind an operation.
func TestNegs(t *testing.T) {
	checkRead(t, "out - - 1;", nil, num(1), neg(0), neg(1), out(2), block(3))
	checkRead(t, "out ---1;", nil, num(1), neg(0), neg(1), neg(2), out(3), block(4))
	checkRead(t, "out -a;", nil, vr("a"), neg(0), out(1), block(2))
	checkRead(t, "out -in;", nil, in(), neg(0), out(1), block(2))
	checkRead(t, "out -a[1];", nil, num(1), get("a", 0), neg(1), out(2), block(3))
	checkRead(t, "out a[-1];", nil, num(1), neg(0), get("a", 1), out(2), block(3))
	checkRead(t, "out -(1);", nil, num(1), neg(0), out(1), block(2))
	checkRead(t, "out -(1 + 2);", nil, num(1), num(2), bin(3, 0, 1), neg(2), out(3), block(4))
	checkRead(t, "out -1 + 2;", nil, num(1), neg(0), num(2), bin(3, 1, 2), out(3), block(4))
	checkRead(t, "out -1 * 2;", nil, num(1), neg(0), num(2), bin(5, 1, 2), out(3), block(4))
	checkRead(t, "out 1 - -2;", nil, num(1), num(2), neg(1), bin(4, 0, 2), out(3), block(4))
	checkRead(t, "out 1--2;", nil, num(1), num(2), neg(1), bin(4, 0, 2), out(3), block(4))
	checkRead(t, "out 1---2;", nil, num(1), num(2), neg(1), neg(2), bin(4, 0, 3), out(4), block(5))
	checkRead(t, "out 1 * -2 * 3;", nil, num(1), num(2), neg(1), bin(5, 0, 2), num(3), bin(5, 3, 4), out(5), block(6))
	checkRead(t, "out 1 < -2;", nil, num(1), num(2), neg(1), bin(13, 0, 2), out(3), block(4))
	checkRead(t, "out 1 == --2;", nil, num(1), num(2), neg(1), neg(2), bin(14, 0, 3), out(4), block(5))
	checkRead(t, "out 4294967295 - -4294967295;", nil, num(1<<32-1), num(1<<32-1), neg(1), bin(4, 0, 2), out(3), block(4))
}

// TestInside has what stands where a key alone may begin a value.
func TestInside(t *testing.T) {
	checkRead(t, "out in + in;", nil, in(), in(), bin(3, 0, 1), out(2), block(3))
	checkRead(t, "out in - -in * in;", nil, in(), in(), neg(1), in(), bin(5, 2, 3), bin(4, 0, 4), out(5), block(6))
	checkRead(t, "out a[in];", nil, in(), get("a", 0), out(1), block(2))
	checkRead(t, "a[in] = in;", nil, in(), in(), put("a", 0, 1), block(2))
	checkRead(t, "while in { }", nil, in(), block(), loop(0, 1), block(2))
	checkRead(t, "out a[1] + a[2] * a[3];", nil, num(1), get("a", 0), num(2), get("a", 2), num(3), get("a", 4), bin(5, 3, 5), bin(3, 1, 6), out(7), block(8))
	checkRead(t, "out -a[-b[-1]];", nil, num(1), neg(0), get("b", 1), neg(2), get("a", 3), neg(4), out(5), block(6))
}

// TestWhole has a program of all kinds of words.
func TestWhole(t *testing.T) {
	checkRead(t, "var a;arr b2[10];\nif a<3{out -b2[a]*(in+0)%7/a;}else{while 1==a{exit 4294967295;}}",
		[]Decl{{"a", -1}, {"b2", 10}},
		vr("a"), num(3), bin(13, 0, 1),
		vr("a"), get("b2", 3), neg(4), in(), num(0), bin(3, 6, 7), bin(5, 5, 8), num(7), bin(7, 9, 10), vr("a"), bin(6, 11, 12), out(13), block(14),
		num(1), vr("a"), bin(14, 16, 17), num(1<<32-1), exit(19), block(20), loop(18, 21), block(22),
		branch(2, 15, 23), block(24))
}

// TestBlanks has the same words with other blanks between.
func TestBlanks(t *testing.T) {
	want := checkFits(t, "var x ; arr t [ 3 ] ; while x < 3 { t [ x ] = - in ; if x == 3 { } else { exit ( x ) ; } }")
	for _, text := range []string{"var x;arr t[3];while x<3{t[x]=-in;if x==3{}else{exit(x);}}", "\n var\nx;\n\narr t\n[3 ];while  x<3 {t[x ]=\n-in;if x==3 { }else{\nexit (x );}\n}\n "} {
		if x, at, e := Read(text); e != 0 || at != 0 || !same(x, want) {
			t.Errorf("Read(%q) = %v, %d, %d, want %v", text, told(x), at, e, told(want))
		}
		checkPlain(t, text)
	}
}

// TestDrawn has drawn programs, whose trees are made as their words are.
func TestDrawn(t *testing.T) {
	var r draws = 161
	kinds := map[int]int{}
	for range 3000 {
		text, want := drawn(&r)
		for _, text := range []string{text, spaced(&r, text)} {
			x, at, e := Read(text)
			if e != 0 || at != 0 || !same(x, want) {
				t.Fatalf("Read(%q) = %v, %d, %d, want %v", text, told(x), at, e, told(want))
			}
		}
		checkPlain(t, text)
		for _, x := range want.Nodes {
			kinds[x.Kind]++
		}
	}
	for kind := 1; kind <= 13; kind++ {
		if kinds[kind] < 500 {
			t.Errorf("of the kind %d there were %d nodes alone", kind, kinds[kind])
		}
	}
}

// others answers the places of all nodes that a node has.
func others(x Node) []int {
	l := slices.Clone(x.List)
	for _, at := range []int{x.A, x.B, x.C} {
		if at != -1 {
			l = append(l, at)
		}
	}
	return l
}

// TestBehind holds that each node stands behind those that it has, that each but the last one is one other node's alone, and that the last one is the block of all statements.
func TestBehind(t *testing.T) {
	var r draws = 162
	for range 1000 {
		text, _ := drawn(&r)
		x := checkFits(t, text)
		had := make([]int, len(x.Nodes))
		for i, n := range x.Nodes {
			for _, at := range others(n) {
				if at < 0 || at >= i {
					t.Fatalf("Read(%q): the node %d has the node %d", text, i, at)
				}
				had[at]++
			}
		}
		last := len(x.Nodes) - 1
		if x.Body != last || x.Nodes[last].Kind != Block || had[last] != 0 {
			t.Fatalf("Read(%q): Body is %d of %d nodes", text, x.Body, len(x.Nodes))
		}
		for i, n := range had[:last] {
			if n != 1 {
				t.Fatalf("Read(%q): %d nodes have the node %d", text, n, i)
			}
		}
	}
}

// TestFields holds that each node has the fields of its kind alone.
func TestFields(t *testing.T) {
	has := map[int]string{1: "V", 2: "N", 3: "AN", 4: "", 5: "A", 6: "ABV", 7: "AN", 8: "ABN", 9: "ABC", 10: "AB", 11: "A", 12: "A", 13: "L"}
	var r draws = 163
	for range 500 {
		text, _ := drawn(&r)
		for i, n := range checkFits(t, text).Nodes {
			fields := has[n.Kind]
			wrong := n.A != -1 != strings.Contains(fields, "A") || n.B != -1 != strings.Contains(fields, "B")
			wrong = wrong || n.C != -1 && n.Kind != If || n.Name != "" != strings.Contains(fields, "N")
			wrong = wrong || n.V != 0 && !strings.Contains(fields, "V") || len(n.List) != 0 && n.Kind != Block
			if wrong {
				t.Fatalf("Read(%q): the node %d is %v", text, i, n)
			}
		}
	}
}
