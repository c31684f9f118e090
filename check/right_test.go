package check

import (
	"fmt"
	"math"
	"slices"
	"strings"
	"testing"

	"corral/api"
	"corral/parse"
)

// 17.1, Right

// TestNothing has trees without declarations and names.
func TestNothing(t *testing.T) {
	checkTree(t, parse.Tree{}, 0)
	checkTree(t, parse.Tree{Decls: []parse.Decl{}, Nodes: []parse.Node{}}, 0)
	checkTree(t, tree(nil, node(parse.Block, "")), 0)
	for _, text := range []string{"", " \n", "out 1;", "while 1 { out in; }", "if -in { exit 1; } else { out 2 * 3; }"} {
		checkText(t, text, 0)
	}
}

// TestDeclared has declarations alone, vars and arrs in any order.
func TestDeclared(t *testing.T) {
	for _, l := range [][]parse.Decl{
		decls(vr("a")), decls(arr("a", 1)), decls(vr("a"), arr("b", 2)), decls(arr("a", 2), vr("b")), decls(arr("a", 3), vr("b"), arr("c", 4), vr("d"), vr("e"), arr("f", 5)), decls(vr("a"), vr("ab"), vr("abc"), vr("aa"), vr("a0"), arr("a00", 3)),
	} {
		checkTree(t, tree(l), 0)
		checkText(t, written(l), 0)
	}
}

// TestSizes has an arr of each size, alone, and among others.
func TestSizes(t *testing.T) {
	for _, x := range []struct {
		size int
		want api.Errno
	}{
		{-1, 0}, {0, 4}, {1, 0}, {2, 0}, {31, 0}, {32, 0}, {33, 4}, {34, 4}, {64, 4}, {100, 4}, {256, 4}, {1000, 4},
		{-2, 4}, {-3, 4}, {-32, 4}, {-33, 4}, {-1000, 4}, {1001, 4}, {1 << 31, 4}, {1<<32 - 1, 4}, {1 << 32, 4}, {1<<32 + 1, 4}, {-1 << 32, 4}, {math.MaxInt, 4}, {math.MinInt, 4}, {math.MinInt + 1, 4},
	} {
		checkTree(t, tree(decls(arr("a", x.size))), x.want)
		checkTree(t, tree(decls(arr("a", x.size), arr("b", 1), vr("c"))), x.want)
		checkTree(t, tree(decls(vr("c"), arr("b", 32), arr("a", x.size))), x.want)
		checkTree(t, tree(decls(arr("b", 1), arr("a", x.size), arr("c", 1), arr("d", 1))), x.want)
		if x.size >= 0 && x.size <= 1000 {
			checkText(t, fmt.Sprintf("arr a[%d];", x.size), x.want)
			checkText(t, fmt.Sprintf("var v; arr b[3]; arr a[%d]; out v;", x.size), x.want)
		}
	}
	for size := -40; size <= 1040; size++ {
		checkPlain(t, tree(decls(arr("a", size))))
	}
}

// TestVar holds that one of size -1 is a var and no other one is.
func TestVar(t *testing.T) {
	for _, kind := range []int{parse.Var, parse.Set} {
		checkTree(t, tree(decls(arr("a", -1)), node(kind, "a")), 0)
		checkTree(t, tree(decls(arr("a", 1)), node(kind, "a")), 11)
		checkTree(t, tree(decls(arr("a", -2)), node(kind, "a")), 4)
		checkTree(t, tree(decls(arr("a", 0)), node(kind, "a")), 4)
	}
}

// TestMost has as many vars and arrs as there may be, and more, in both orders.
func TestMost(t *testing.T) {
	for v := range 20 {
		for a := range 7 {
			want := api.OK
			if v > 16 || a > 4 {
				want = api.ErrSize
			}
			one, two := vars(v), arrs(slices.Repeat([]int{32}, a)...)
			checkTree(t, tree(slices.Concat(one, two)), want)
			checkTree(t, tree(slices.Concat(two, one)), want)
			checkText(t, written(one, two), want)
			checkText(t, written(two, one)+"out 1;", want)
		}
	}
	for _, n := range []int{18, 20, 32, 33, 100, 255, 256, 257, 400} {
		checkTree(t, tree(vars(n)), 4)
		checkTree(t, tree(arrs(slices.Repeat([]int{1}, n)...)), 4)
		checkTree(t, tree(slices.Concat(vars(n), arrs(1, 32))), 4)
		checkTree(t, tree(slices.Concat(vars(16), arrs(slices.Repeat([]int{1}, n)...))), 4)
	}
	mixed := slices.Concat(vars(5), arrs(1, 2, 3, 4), vars(16)[5:])
	checkTree(t, tree(mixed), 0)
	checkTree(t, tree(slices.Insert(mixed, 7, vr("new"))), 4)
	checkTree(t, tree(slices.Insert(mixed, 7, arr("new", 1))), 4)
}

// TestTwoOfOne has declarations two of which have one name.
func TestTwoOfOne(t *testing.T) {
	for _, one := range []parse.Decl{vr("a"), arr("a", 1), arr("a", 32)} {
		for _, two := range []parse.Decl{vr("a"), arr("a", 1), arr("a", 7)} {
			checkTree(t, tree(decls(one, two)), 9)
			checkTree(t, tree(decls(vr("b"), one, two)), 9)
			checkTree(t, tree(decls(one, vr("b"), two)), 9)
			checkTree(t, tree(decls(one, two, arr("b", 3))), 9)
			checkTree(t, tree(decls(one, two, one)), 9)
			checkTree(t, tree(decls(one, arr("b", 2), two, vr("c"), two)), 9)
			checkText(t, written(decls(one, two)), 9)
			checkText(t, written(decls(one, vr("b"), two, one)), 9)
		}
	}
	many := slices.Concat(vars(16), arrs(1, 2, 32, 4))
	checkTree(t, tree(many), 0)
	for i := range many {
		for j := range many {
			l := slices.Clone(many)
			l[j].Name = l[i].Name
			want := api.ErrTwice
			if i == j {
				want = api.OK
			}
			checkTree(t, tree(l), want)
		}
	}
}

// TestNames has names that are nearly one.
func TestNames(t *testing.T) {
	names := []string{"a", "b", "aa", "ab", "ba", "a0", "a1", "abcdefgh", "abcdefgi", "bbcdefgh", "", " ", "a ", " a", "A", "var", "in", "a\x00", "\x00a", "\xff", "é", strings.Repeat("a", 1000), strings.Repeat("a", 1001)}
	for i, one := range names {
		for j, two := range names {
			twice, used := api.ErrTwice, api.OK
			if i != j {
				twice, used = api.OK, api.ErrName
			}
			checkTree(t, tree(decls(vr(one), vr(two))), twice)
			checkTree(t, tree(decls(vr(one), arr(two, 1))), twice)
			checkTree(t, tree(decls(vr(one)), node(parse.Var, two)), used)
			checkTree(t, tree(decls(arr(one, 1)), node(parse.Put, two)), used)
		}
	}
}

// TestOrder has trees to which several errors apply: ErrTwice is ahead of ErrSize, and that one of the nodes' errors, in whichever order they stand.
func TestOrder(t *testing.T) {
	faults := []parse.Node{node(parse.Var, "none"), node(parse.Get, "none"), node(parse.Set, "z"), node(parse.Put, "y")}
	twices := [][]parse.Decl{decls(vr("t"), vr("t")), decls(arr("t", 1), vr("t"))}
	sizes := [][]parse.Decl{decls(arr("s", 0)), decls(arr("s", 33)), decls(arr("s", -2)), vars(17), arrs(1, 1, 1, 1, 1)}
	right := decls(vr("y"), arr("z", 2))
	for _, n := range faults {
		for _, two := range twices {
			checkTree(t, tree(slices.Concat(right, two), n), 9)
			checkTree(t, tree(slices.Concat(two, right), n), 9)
			for _, size := range sizes {
				checkTree(t, tree(slices.Concat(right, two, size), n), 9)
				checkTree(t, tree(slices.Concat(size, two, right), n), 9)
				checkTree(t, tree(slices.Concat(size, right, two)), 9)
				checkTree(t, tree(slices.Concat(two, size)), 9)
			}
		}
		for _, size := range sizes {
			checkTree(t, tree(slices.Concat(right, size), n), 4)
			checkTree(t, tree(slices.Concat(size, right), n), 4)
			checkTree(t, tree(size, n), 4)
		}
	}
	checkTree(t, tree(slices.Concat(vars(17), arrs(0))), 4)
	checkTree(t, tree(decls(arr("a", 33), arr("a", 33))), 9)
	checkTree(t, tree(decls(arr("a", 0), vr("a")), node(parse.Var, "a")), 9)
	checkTree(t, tree(slices.Repeat(decls(vr("a")), 17)), 9)
	checkTree(t, tree(slices.Repeat(decls(arr("a", 1)), 5)), 9)
	checkTree(t, tree(slices.Concat(vars(17), vars(1))), 9)
	for text, want := range map[string]api.Errno{
		"var a; arr a[33];": 9, "arr a[0]; var b; var b; out c;": 9, "arr a[0]; out c;": 4, "arr a[33]; a = 1;": 4, "arr a[33]; var b; b[0] = 1;": 4, "var b; b[0] = c; ": 10, "var b; c = b[0];": 11,
	} {
		checkText(t, text, want)
	}
}

// TestUses has each kind of node that has a name, the name being declared as it should be, as the other kind, and not at all.
func TestUses(t *testing.T) {
	for kind, isVar := range asked {
		asVar, asArr := api.OK, api.ErrKind
		if !isVar {
			asVar, asArr = api.ErrKind, api.OK
		}
		for _, around := range [][]parse.Decl{nil, vars(3), arrs(1, 2), slices.Concat(vars(15), arrs(3, 4, 5))} {
			n := node(kind, "x")
			checkTree(t, tree(slices.Concat(around, decls(vr("x"))), n), asVar)
			checkTree(t, tree(slices.Concat(decls(vr("x")), around), n), asVar)
			checkTree(t, tree(slices.Concat(around, decls(arr("x", 9))), n), asArr)
			checkTree(t, tree(slices.Concat(decls(arr("x", 1)), around), n), asArr)
			checkTree(t, tree(around, n), 10)
		}
	}
	for text, want := range map[string]api.Errno{
		"var x; out x;": 0, "arr x[1]; out x;": 11, "out x;": 10, "var x; x = 1;": 0, "arr x[1]; x = 1;": 11, "x = 1;": 10,
		"var x; out x[0];": 11, "arr x[1]; out x[0];": 0, "out x[0];": 10, "var x; x[0] = 1;": 11, "arr x[1]; x[0] = 1;": 0, "x[0] = 1;": 10,
		"arr x[1]; out x[99];": 0, "arr x[1]; x[-1] = 1;": 0, // a place is none of a program's faults
	} {
		checkText(t, text, want)
	}
}

// TestEverywhere has a name in each place of a program in which one can stand.
func TestEverywhere(t *testing.T) {
	for _, text := range []string{
		"out X;", "exit X;", "a = X;", "b[X] = 1;", "b[1] = X;", "out b[X];", "out -X;", "out 1 + X;", "out X < 2;", "out (X);", "if X { }", "while X { }", "out 1; out X;", "if 1 { out X; }", "if 1 { } else { out X; }", "while 1 { out X; }", "while 1 { if 2 { while 3 { a = b[-(1 * X)]; } } }", "X = 1;", "if 1 { } else { X = 1; }", "while 0 { exit 1; X = X; }", "exit 1; X = 2;",
	} {
		text = "var a; arr b[3]; var c; arr d[2]; " + text
		checkText(t, strings.ReplaceAll(text, "X", "c"), 0)
		checkText(t, strings.ReplaceAll(text, "X", "d"), 11)
		checkText(t, strings.ReplaceAll(text, "X", "e"), 10)
	}
	for _, text := range []string{"out X[0];", "X[1] = 2;", "while 1 { X[X[a]] = X[1]; }", "if X[1] == a { }", "a = X[2] + b[1];"} {
		text = "var a; arr b[3]; var c; arr d[2]; " + text
		checkText(t, strings.ReplaceAll(text, "X", "d"), 0)
		checkText(t, strings.ReplaceAll(text, "X", "c"), 11)
		checkText(t, strings.ReplaceAll(text, "X", "e"), 10)
	}
}

// TestFirst has several nodes whose names aren't right: the first one's error is told, by the nodes' order in the list, which isn't that of the words.
func TestFirst(t *testing.T) {
	l := decls(vr("v"), arr("a", 3))
	right := []parse.Node{node(2, "v"), node(7, "v"), node(3, "a"), node(8, "a"), node(1, ""), node(13, "")}
	names := []parse.Node{node(2, "n"), node(3, "n"), node(7, "n"), node(8, "n")}
	kinds := []parse.Node{node(2, "a"), node(3, "v"), node(7, "a"), node(8, "v")}
	for _, name := range names {
		for _, kind := range kinds {
			checkTree(t, tree(l, name, kind), 10)
			checkTree(t, tree(l, kind, name), 11)
			checkTree(t, tree(l, slices.Concat(right, names[:1], right, []parse.Node{kind}, right)...), 10)
			checkTree(t, tree(l, slices.Concat(right, kinds[:1], right, []parse.Node{name, kind}, right)...), 11)
			checkTree(t, tree(l, append(slices.Repeat(right, 200), name, kind)...), 10)
			checkTree(t, tree(l, append(slices.Repeat(right, 200), kind, name)...), 11)
		}
		checkTree(t, tree(l, append(slices.Clone(right), name)...), 10)
	}
	for text, want := range map[string]api.Errno{
		"var v; arr a[1]; v = n; out a;": 10, "var v; arr a[1]; out a; v = n;": 11, "var v; arr a[1]; n = a;": 11, "var v; arr a[1]; a = n;": 10, "var v; arr a[1]; v[n] = a;": 10, "var v; arr a[1]; n[a] = 1;": 11, "var v; arr a[1]; out v[n];": 10, "var v; arr a[1]; out n[a];": 11, "var v; arr a[1]; out n + a;": 10, "var v; arr a[1]; out a + n;": 11, "var v; arr a[1]; if 1 { out a; } n = 1;": 11, "var v; arr a[1]; if 1 { out n; } a = 1;": 10, "var v; arr a[1]; while n { a = 1; }": 10, "var v; arr a[1]; while a { n = 1; }": 11,
	} {
		checkText(t, text, want)
	}
}

// TestNoName has names in nodes whose kinds have none: they aren't looked at.
func TestNoName(t *testing.T) {
	l := decls(vr("v"), arr("a", 3))
	for _, kind := range []int{1, 4, 5, 6, 9, 10, 11, 12, 13, 0, -1, -2, -7, 14, 15, 99, 257, 258, 259, 263, 264, 1<<32 + 2, math.MaxInt, math.MinInt} {
		for _, name := range []string{"", "v", "a", "n", "while"} {
			checkTree(t, tree(l, node(kind, name)), 0)
			checkTree(t, tree(nil, node(kind, name), node(kind, name)), 0)
			checkTree(t, tree(l, node(kind, name), node(2, "v")), 0)
			checkTree(t, tree(l, node(kind, name), node(2, "n")), 10)
			checkTree(t, tree(l, node(kind, name), node(2, "a")), 11)
		}
	}
}

// TestEmptyName has an empty one, declared and not.
func TestEmptyName(t *testing.T) {
	for kind, isVar := range asked {
		checkTree(t, tree(nil, node(kind, "")), 10)
		checkTree(t, tree(decls(vr("a"), arr("b", 1)), node(kind, "")), 10)
		right, other := vr(""), arr("", 2)
		if !isVar {
			right, other = other, right
		}
		checkTree(t, tree(decls(right), node(kind, "")), 0)
		checkTree(t, tree(decls(other), node(kind, "")), 11)
		checkTree(t, tree(decls(right, other), node(kind, "")), 9)
	}
}

// TestOtherTrees has trees that Read didn't make.
func TestOtherTrees(t *testing.T) {
	l := decls(vr("v"), arr("a", 3))
	checkTree(t, parse.Tree{Decls: l}, 0)
	for _, body := range []int{-1, 0, 1, 7, 1000, math.MaxInt, math.MinInt} {
		checkTree(t, parse.Tree{Decls: l, Body: body}, 0)
		checkTree(t, parse.Tree{Body: body}, 0)
		checkTree(t, parse.Tree{Decls: l, Nodes: []parse.Node{node(2, "v"), node(8, "n")}, Body: body}, 10)
	}
	for _, at := range []int{-1, 0, 1, 2, 3, 99, math.MaxInt, math.MinInt} {
		places := []int{at, 0, at, -at}
		for kind := -1; kind <= 15; kind++ {
			for _, name := range []string{"v", "a", "n"} {
				isVar, has := asked[kind]
				want := api.OK
				switch {
				case has && name == "n":
					want = api.ErrName
				case has && isVar != (name == "v"):
					want = api.ErrKind
				}
				n := parse.Node{Kind: kind, A: at, B: at, C: at, Name: name, V: uint32(at), List: places}
				checkTree(t, parse.Tree{Decls: l, Nodes: []parse.Node{n}, Body: at}, want)
				checkTree(t, parse.Tree{Decls: l, Nodes: []parse.Node{node(2, "v"), n, n, node(3, "a")}, Body: 3}, want)
			}
		}
	}
}

// TestMany has very many declarations and nodes.
func TestMany(t *testing.T) {
	const n = 100000
	many := tree(vars(n))
	if e := Right(many); e != 4 {
		t.Errorf("Right of %d vars = %d", n, e)
	}
	many.Decls[n-1].Name = many.Decls[0].Name
	if e := Right(many); e != 9 {
		t.Errorf("Right of %d vars, two of one name, = %d", n, e)
	}
	many = tree(vars(16), slices.Repeat([]parse.Node{node(2, "v3")}, n)...)
	checkTree(t, many, 0)
	many.Nodes[n-1].Name = "a0"
	checkTree(t, many, 10)
	many.Decls[3] = arr("v3", 1)
	checkTree(t, many, 11)
}

// TestDrawn has drawn trees, of which enough are of each answer.
func TestDrawn(t *testing.T) {
	var r draws = 171
	some := map[api.Errno]int{}
	for range 20000 {
		some[checkPlain(t, drawnTree(&r, 50))]++
	}
	for range 2000 {
		x := drawnTree(&r, 0)
		if len(plainVars(x)) <= 16 {
			checkTree(t, x, 0)
		}
	}
	for _, e := range []api.Errno{0, 4, 9, 10, 11} {
		if some[e] < 500 {
			t.Errorf("there were %d trees alone of the answer %d: %v", some[e], e, some)
		}
	}
	if len(some) != 5 {
		t.Errorf("the answers are %v", some)
	}
}
