package parse

import (
	"math"
	"slices"
	"strings"
	"testing"
)

// 16.3

// tree answers one of declarations, and of nodes, the last of which is the block of all statements.
func tree(decls []Decl, nodes ...Node) Tree { return Tree{decls, nodes, len(nodes) - 1} }

// checkShow holds that a tree is shown as a text that is written out.
func checkShow(t *testing.T, x Tree, text string) {
	t.Helper()
	if shown := Show(x); shown != text {
		t.Errorf("Show(%v) = %q, want %q", told(x), short(shown), short(text))
	}
	checkShown(t, x)
}

// TestShowTexts has texts, and how what is read of them is shown.
func TestShowTexts(t *testing.T) {
	for _, x := range []struct{ text, shown string }{
		{"", ""}, {" \n ", ""}, {"var a;", "var a ;"}, {"arr a[3];", "arr a [ 3 ] ;"}, {"arr a[0];", "arr a [ 0 ] ;"}, {"arr a[1000];var b;", "arr a [ 1000 ] ; var b ;"},
		{"out 1;", "out 1 ;"}, {"out 0;", "out 0 ;"}, {"out 4294967295;", "out 4294967295 ;"}, {"out 2147483648;", "out 2147483648 ;"}, {"out a;", "out a ;"}, {"out a[1];", "out a [ 1 ] ;"}, {"out in;", "out in ;"}, {"exit in;", "exit in ;"},
		{"out -1;", "out ( - 1 ) ;"}, {"out --a;", "out ( - ( - a ) ) ;"}, {"out 1+2;", "out ( 1 + 2 ) ;"}, {"out 1-2-3;", "out ( ( 1 - 2 ) - 3 ) ;"}, {"out 1-(2-3);", "out ( 1 - ( 2 - 3 ) ) ;"}, {"out (((1)));", "out 1 ;"}, {"out -(1);", "out ( - 1 ) ;"}, {"out a[-b[1]];", "out a [ ( - b [ 1 ] ) ] ;"},
		{"out 1*2;", "out ( 1 * 2 ) ;"}, {"out 1/2;", "out ( 1 / 2 ) ;"}, {"out 1%2;", "out ( 1 % 2 ) ;"}, {"out 1<2;", "out ( 1 < 2 ) ;"}, {"out 1==2;", "out ( 1 == 2 ) ;"}, {"out 1-2;", "out ( 1 - 2 ) ;"}, {"out 1--2;", "out ( 1 - ( - 2 ) ) ;"}, {"out -1*2;", "out ( ( - 1 ) * 2 ) ;"}, {"out 1+2*3<4;", "out ( ( 1 + ( 2 * 3 ) ) < 4 ) ;"},
		{"a=1;", "a = 1 ;"}, {"a[1]=2;", "a [ 1 ] = 2 ;"}, {"a[1+2]=a[3];", "a [ ( 1 + 2 ) ] = a [ 3 ] ;"}, {"a=b==c;", "a = ( b == c ) ;"},
		{"if 1{}", "if 1 { }"}, {"if 1{out 2;}", "if 1 { out 2 ; }"}, {"if 1{}else{}", "if 1 { } else { }"}, {"if a<b{out 1;out 2;}else{exit 3;}", "if ( a < b ) { out 1 ; out 2 ; } else { exit 3 ; }"}, {"if 1{}else{if 2{}}", "if 1 { } else { if 2 { } }"}, {"while 1{}", "while 1 { }"}, {"while-1{while a{}}", "while ( - 1 ) { while a { } }"}, {"out 1;out 2;", "out 1 ; out 2 ;"}, {"var a;out 1;", "var a ; out 1 ;"},
	} {
		checkShow(t, checkFits(t, x.text), x.shown)
	}
}

// TestShowKinds has each kind of node, in trees that are written out.
func TestShowKinds(t *testing.T) {
	checkShow(t, tree(nil, num(7)), "7")
	checkShow(t, tree(nil, num(1<<32-1)), "4294967295")
	checkShow(t, tree(nil, vr("abc")), "abc")
	checkShow(t, tree(nil, num(7), get("abc", 0)), "abc [ 7 ]")
	checkShow(t, tree(nil, in()), "in")
	checkShow(t, tree(nil, num(7), neg(0)), "( - 7 )")
	for sign, op := range opOf {
		checkShow(t, tree(nil, num(7), num(8), bin(op, 0, 1)), "( 7 "+sign+" 8 )")
		checkShow(t, tree(nil, num(7), num(8), bin(op, 1, 0)), "( 8 "+sign+" 7 )")
	}
	checkShow(t, tree(nil, num(7), set("a", 0)), "a = 7 ;")
	checkShow(t, tree(nil, num(7), num(8), put("a", 0, 1)), "a [ 7 ] = 8 ;")
	checkShow(t, tree(nil, num(7), block(), branch(0, 1, -1)), "if 7 { }")
	checkShow(t, tree(nil, num(7), block(), block(), branch(0, 1, 2)), "if 7 { } else { }")
	checkShow(t, tree(nil, num(7), block(), loop(0, 1)), "while 7 { }")
	checkShow(t, tree(nil, num(7), out(0)), "out 7 ;")
	checkShow(t, tree(nil, num(7), exit(0)), "exit 7 ;")
	checkShow(t, tree(nil, block()), "")
	checkShow(t, tree(nil, num(7), out(0), block(1, 1), block(2, 1)), "{ out 7 ; out 7 ; } out 7 ;")
	checkShow(t, tree([]Decl{{"a", -1}, {"b", 0}, {"c", 1000}}, block()), "var a ; arr b [ 0 ] ; arr c [ 1000 ] ;")
	checkShow(t, tree([]Decl{{"a", 4294967295}}, block()), "arr a [ 4294967295 ] ;")
	checkShow(t, Tree{nil, []Node{num(1), out(0), block(1), num(2), num(3)}, 2}, "out 1 ;") // nodes that none has
}

// TestShowNothing has trees that Read didn't make, whose Body isn't there.
func TestShowNothing(t *testing.T) {
	checkShow(t, Tree{}, "?")
	checkShow(t, Tree{Decls: []Decl{{"a", -1}}}, "var a ; ?")
	for _, body := range []int{-1, -2, 1, 2, 100, 1 << 32, -1 << 32, math.MaxInt, math.MinInt} {
		checkShow(t, Tree{Body: body}, "?")
		checkShow(t, Tree{nil, []Node{block()}, body}, "?")
		checkShow(t, Tree{[]Decl{{"a", 3}}, []Node{block()}, body}, "arr a [ 3 ] ; ?")
	}
	checkShow(t, Tree{nil, []Node{num(1), out(0), block(1)}, 3}, "?")
	checkShow(t, Tree{nil, []Node{num(1), out(0), block(1)}, 1}, "out 1 ;")
	checkShow(t, Tree{nil, []Node{num(1), out(0), block(1)}, 0}, "1")
}

// wrongPlaces are those that a third node can't have.
var wrongPlaces = []int{2, 3, 4, 5, 1000, 1 << 31, 1 << 32, math.MaxInt, -1, -2, -3, -1000, -1 << 32, math.MinInt}

// TestShowPlaces has nodes that have places which aren't there, their own, and later ones.
func TestShowPlaces(t *testing.T) {
	for _, at := range wrongPlaces {
		for _, x := range []struct {
			n    Node
			text string
		}{
			{get("a", at), "a [ ? ]"}, {neg(at), "( - ? )"}, {bin(3, at, 0), "( ? + 5 )"}, {bin(3, 0, at), "( 5 + ? )"}, {bin(14, at, at), "( ? == ? )"}, {set("a", at), "a = ? ;"}, {put("a", at, 0), "a [ ? ] = 5 ;"}, {put("a", 0, at), "a [ 5 ] = ? ;"}, {put("a", at, at), "a [ ? ] = ? ;"},
			{branch(at, 1, -1), "if ? { }"}, {branch(0, at, -1), "if 5 ?"}, {branch(0, at, 1), "if 5 ? else { }"}, {branch(at, at, -1), "if ? ?"}, {loop(at, 1), "while ? { }"}, {loop(0, at), "while 5 ?"}, {out(at), "out ? ;"}, {exit(at), "exit ? ;"}, {block(at), "?"}, {block(at, 0, at), "? 5 ?"}, {block(1, at), "{ } ?"},
		} {
			for _, more := range [][]Node{nil, {num(6), num(7), num(8)}} { // later ones are there, or not
				checkShow(t, Tree{nil, append([]Node{num(5), block(), x.n}, more...), 2}, x.text)
			}
		}
		if at != -1 { // that one is none
			checkShow(t, tree(nil, num(5), block(), branch(0, 1, at)), "if 5 { } else ?")
			checkShow(t, tree(nil, num(5), block(), branch(0, at, at)), "if 5 ? else ?")
		}
	}
	checkShow(t, tree(nil, num(5), block(0, 1), num(6), block(0, 1, 2)), "5 { 5 ? } 6") // the block's own place is another one's right one
	checkShow(t, tree(nil, num(5), neg(0), bin(4, 2, 1), neg(2)), "( - ( ? - ( - 5 ) ) )")
}

// TestShowKindsNone has kinds that are none, and a V that is no operation of the language.
func TestShowKindsNone(t *testing.T) {
	for _, kind := range []int{0, -1, -13, 14, 15, 256 + 1, 1 << 32, 1<<32 + 1, math.MaxInt, math.MinInt} {
		checkShow(t, tree(nil, Node{Kind: kind}), "?")
		checkShow(t, tree(nil, Node{kind, 0, 0, 0, "a", 7, []int{0}}), "?")
		checkShow(t, tree(nil, num(1), Node{kind, 0, 0, 0, "a", 7, []int{0}}, out(1), block(2, 0)), "out ? ; 1")
	}
	for _, op := range []uint32{0, 1, 2, 8, 9, 10, 11, 12, 15, 16, 22, 23, 24, 256 + 3, 1<<31 + 3, 1<<32 - 1} {
		checkShow(t, tree(nil, num(1), num(2), bin(op, 0, 1), out(2), block(3)), "out ( 1 ? 2 ) ;")
	}
}

// TestShowOther has nodes with fields that their kind doesn't have: they aren't shown.
func TestShowOther(t *testing.T) {
	all := func(kind int) Node { return Node{kind, 0, 0, 0, "a", 3, []int{0, 0}} }
	for kind, text := range map[int]string{1: "3", 2: "a", 3: "a [ 5 ]", 4: "in", 5: "( - 5 )", 6: "( 5 + 5 )", 7: "a = 5 ;", 8: "a [ 5 ] = 5 ;", 9: "if 5 5 else 5", 10: "while 5 5", 11: "out 5 ;", 12: "exit 5 ;", 13: "5 5"} {
		checkShow(t, tree(nil, num(5), all(kind)), text)
	}
	checkShow(t, tree(nil, num(5), all(13), Node{9, 1, 1, -1, "b", 4, []int{1}}), "if { 5 5 } { 5 5 }")
}

// TestShowNames has names that no text can have: they are shown as they stand.
func TestShowNames(t *testing.T) {
	for _, name := range []string{"A", "B", "C", "L", "N", "O", "V", "?", "in", "7", "abcdefghi", "a b", "é", "\xff", "a\x00b"} {
		checkShow(t, tree([]Decl{{name, -1}, {name, 2}}, vr(name), get(name, 0), set(name, 1), put(name, 0, 1), block(2, 3)),
			"var "+name+" ; arr "+name+" [ 2 ] ; "+name+" = "+name+" [ "+name+" ] ; "+name+" [ "+name+" ] = "+name+" [ "+name+" ] ;")
	}
}

// TestShowMany has trees of which 1000 nodes are shown, and more: all behind the 1000th are ?.
func TestShowMany(t *testing.T) {
	outs := func(n int) Tree { return tree(nil, num(7), out(0), block(slices.Repeat([]int{1}, n)...)) }
	checkShow(t, outs(499), strings.Repeat("out 7 ; ", 498)+"out 7 ;")
	checkShow(t, outs(500), strings.Repeat("out 7 ; ", 499)+"out ? ;")
	checkShow(t, outs(501), strings.Repeat("out 7 ; ", 499)+"out ? ; ?")
	checkShow(t, outs(700), strings.Repeat("out 7 ; ", 499)+"out ? ;"+strings.Repeat(" ?", 200))
	nums := func(n int) Tree { return tree(nil, num(7), block(slices.Repeat([]int{0}, n)...)) }
	checkShow(t, nums(999), strings.Repeat("7 ", 998)+"7")
	checkShow(t, nums(1000), strings.Repeat("7 ", 999)+"?")
	checkShow(t, nums(1001), strings.Repeat("7 ", 999)+"? ?")
	checkShow(t, nums(100000), strings.Repeat("7 ", 999)+strings.Repeat("? ", 99000)+"?")
	negs := func(n int) Tree {
		l := []Node{num(7)}
		for i := range n {
			l = append(l, neg(i))
		}
		return tree(nil, l...)
	}
	checkShow(t, negs(999), strings.Repeat("( - ", 999)+"7"+strings.Repeat(" )", 999))
	checkShow(t, negs(1000), strings.Repeat("( - ", 1000)+"?"+strings.Repeat(" )", 1000))
	checkShow(t, negs(50000), strings.Repeat("( - ", 1000)+"?"+strings.Repeat(" )", 1000))
	gone := tree(nil, num(7), block(append(slices.Repeat([]int{5, -3}, 600), slices.Repeat([]int{0}, 1000)...)...)) // places that aren't there aren't nodes
	checkShow(t, gone, strings.Repeat("? ", 1200)+strings.Repeat("7 ", 999)+"?")
}

// TestShowRead has programs of 1000 nodes: all of them are shown.
func TestShowRead(t *testing.T) {
	for _, text := range []string{strings.Repeat("if 1{}", 333), strings.Repeat("out 1;", 498) + "out -1;", "a=-1" + strings.Repeat("+1", 498) + ";"} {
		x := checkFits(t, text)
		if len(x.Nodes) != 1000 || strings.Contains(Show(x), "?") {
			t.Errorf("Show(%q) = %q", short(text), short(Show(x)))
		}
	}
}

// TestShowShared has nodes that are shown many times, so that there were no end of words without a limit.
func TestShowShared(t *testing.T) {
	for _, made := range []func(at int) Node{
		func(at int) Node { return bin(3, at, at) },
		func(at int) Node { return block(at, at) },
		func(at int) Node { return block(at, at, at, at, at) },
		func(at int) Node { return branch(at, at, at) },
		func(at int) Node { return put("a", at, at) },
		func(at int) Node { return loop(at, at) },
	} {
		for _, n := range []int{1, 5, 8, 9, 10, 11, 60, 900, 5000} {
			l := []Node{num(7)}
			for i := range n {
				l = append(l, made(i))
			}
			checkShown(t, tree(nil, l...))
			checkShown(t, tree([]Decl{{"a", -1}}, append(l, block(n, n))...))
		}
	}
}

// TestShowDrawn has drawn trees, most of which Read can't make.
func TestShowDrawn(t *testing.T) {
	var r draws = 165
	for range 20000 {
		n := r.below(12)
		x := Tree{Body: n - 1 + r.below(3) - 1}
		for range r.below(3) {
			x.Decls = append(x.Decls, Decl{r.name(), r.below(6) - 2})
		}
		place := func(at int) int { return at - 1 - r.below(at+1) + r.below(2)*r.below(3) }
		for at := range n {
			node := Node{1 + r.below(13), place(at), place(at), place(at), r.name(), r.number() >> 20, nil}
			if r.below(20) == 0 {
				node.Kind = r.below(40) - 20
			}
			if node.Kind == 6 {
				node.V = uint32(r.below(16))
			}
			for range r.below(4) {
				node.List = append(node.List, place(at))
			}
			x.Nodes = append(x.Nodes, node)
		}
		checkShown(t, x)
	}
}
