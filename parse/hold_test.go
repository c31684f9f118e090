package parse

import (
	"slices"
	"strings"
	"testing"
	"unsafe"

	"corral/api"
)

// 16.4, and the rules that hold everywhere

// checkBack holds that what is shown of a tree is read as the same tree, shown alike.
func checkBack(t *testing.T, x Tree) {
	t.Helper()
	shown := Show(x)
	y, at, e := Read(shown)
	if e != 0 || at != 0 || !same(x, y) {
		t.Errorf("Read(%q) = %v, %d, %d, want %v", short(shown), told(y), at, e, told(x))
	}
	if again := Show(y); again != shown {
		t.Errorf("Show(%v) = %q, then %q", told(x), short(shown), short(again))
	}
}

// TestBack has drawn programs of all kinds of statements.
func TestBack(t *testing.T) {
	var r draws = 166
	for range 5000 {
		text, want := drawn(&r)
		checkBack(t, want)
		x, _, _ := Read(spaced(&r, text))
		checkBack(t, x)
	}
}

// TestBackWritten has programs that are written out.
func TestBackWritten(t *testing.T) {
	for _, text := range []string{
		"", "var a;", "arr a[0];arr b[1000];var c;", "var a; a = 1 + 2 * 3;", cut, "out 1-2-3;", "out 1-(2-3);", "out (1+2)*3;", "out 1+2*3;", "out (1<2)<3;", "out 1<(2==3);", "out --1;", "out 1---1;", "out -(1+2);", "out -1+2;", "out a[b[-1]];", "out 4294967295;",
		"if 1{}", "if 1{}else{}", "if 1{if 2{}}else{}", "if 1{if 2{}else{}}", "if 1{}else{if 2{}else{}}", "while in{while 1{}out 2;}exit 3;", "a[in]=in;a=a[a];",
		strings.Repeat("if 1{}", 333), strings.Repeat("out in;", 440), "out " + nest("-", "1", "", 32) + ";", "out 1" + strings.Repeat("+1", 48) + ";", nest("if 1{", "", "}", 98), "out " + nest("a[", "1", "]", 48) + ";", strings.Repeat("var a;", 500),
	} {
		checkBack(t, checkFits(t, text))
	}
}

// TestBackLimits has trees that are read, and whose words, with all their brackets and blanks, are beyond a limit: they are shown whole, and what is shown isn't read.
func TestBackLimits(t *testing.T) {
	for _, text := range []string{"out 1" + strings.Repeat("+1", 49) + ";", "out " + nest("-", "1", "", 33) + ";", strings.Repeat("out in;", 499)} {
		shown := Show(checkFits(t, text))
		if shown == "" || strings.Contains(shown, "?") {
			t.Errorf("Show = %q", short(shown))
		}
		checkGreat(t, shown)
	}
}

// texts are some that are read, and some that aren't.
var texts = []string{
	"", "out 1;", "var a; arr b[3]; a = b[1];", cut, "if a { out 1; out 2; } else { while 1 { a = 1; } }", strings.Repeat("if 1{out 2;}", 99),
	"?", "a ?", "var in;", "a = 1", "arr a[1001];", strings.Repeat("out 1;", 501), "out " + nest("(", "1", ")", 60) + ";", strings.Repeat(" ", 4001), "out 1; }",
}

// TestTwice reads the same text twice, and shows the same tree twice, others between.
func TestTwice(t *testing.T) {
	for _, text := range texts {
		x, at, e := Read(text)
		shown := Show(x)
		for _, other := range texts {
			y, _, _ := Read(other)
			Show(y)
		}
		y, at2, e2 := Read(strings.Clone(text))
		if e != e2 || at != at2 || !same(x, y) || Show(x) != shown || Show(y) != shown {
			t.Errorf("Read(%q) = %v, %d, %d, then %v, %d, %d", short(text), told(x), at, e, told(y), at2, e2)
		}
	}
}

// TestZero holds that beside an error there are no declarations, no nodes, and Body 0.
func TestZero(t *testing.T) {
	some := map[api.Errno]int{}
	for _, text := range texts {
		x, at, e := Read(text)
		if e != 0 && (len(x.Decls) != 0 || len(x.Nodes) != 0 || x.Body != 0) || e != api.ErrForm && at != 0 {
			t.Errorf("Read(%q) = %v, %d, %d", short(text), told(x), at, e)
		}
		some[e]++
	}
	if some[api.OK] != 6 || some[api.ErrForm] != 5 || some[api.ErrSize] != 4 || len(some) != 3 {
		t.Errorf("the errors are %v", some)
	}
}

// spoil sets all that a tree has to something else, spare room included.
func spoil(x Tree) {
	for i, n := range x.Nodes {
		whole := n.List[:cap(n.List)]
		for j := range whole {
			whole[j] = -99
		}
		x.Nodes[i] = Node{99, 98, 97, 96, "?", 95, nil}
	}
	nodes := x.Nodes[:cap(x.Nodes)]
	for i := range nodes {
		nodes[i] = Node{99, 98, 97, 96, "?", 95, nil}
	}
	decls := x.Decls[:cap(x.Decls)]
	for i := range decls {
		decls[i] = Decl{"?", 99}
	}
}

// TestApart changes what a call handed out, spare room included: another call's answer stays as it is, and so does what is read behind.
func TestApart(t *testing.T) {
	for _, text := range texts {
		one, _, _ := Read(text)
		two, _, _ := Read(text)
		want, _, _ := plainRead(text)
		spoil(one)
		if !same(two, want) {
			t.Errorf("Read(%q) = %v, which another answer changed, want %v", short(text), told(two), told(want))
		}
		checkPlain(t, text)
	}
}

// TestLists changes each list of a tree that was read, spare room included: the other ones stay as they are.
func TestLists(t *testing.T) {
	text := "if 1 { out 1; out 2; out 3; } else { out 4; } while 2 { a = 1; b = 2; c = 3; d = 4; e = 5; } out 6; out 7;"
	want, _, _ := plainRead(text)
	for i := range want.Nodes {
		x, _, _ := Read(text)
		whole := x.Nodes[i].List[:cap(x.Nodes[i].List)]
		for j := range whole {
			whole[j] = -99
		}
		x.Nodes[i].List = want.Nodes[i].List
		if !same(x, want) {
			t.Errorf("the list of the node %d is another one's too: %v", i, told(x))
		}
	}
}

// copied answers a tree in memory of its own, with the spare room of its lists.
func copied(x Tree) Tree {
	y := Tree{slices.Clone(x.Decls[:cap(x.Decls)]), slices.Clone(x.Nodes[:cap(x.Nodes)]), x.Body}
	for i, n := range y.Nodes {
		y.Nodes[i].List = slices.Clone(n.List[:cap(n.List)])
	}
	return y
}

// TestUnchanged holds that Show doesn't change the tree that it is handed, spare room included.
func TestUnchanged(t *testing.T) {
	trees := []Tree{{}, {Body: 7}, tree(nil, num(1), Node{13, 9, 9, 9, "a", 7, []int{0, 5, -1}}), tree(nil, num(7), block(slices.Repeat([]int{0}, 1200)...)), tree([]Decl{{"a", -5}}, Node{99, 1, 2, 3, "b", 4, []int{5}})}
	for _, text := range texts {
		x, _, _ := Read(text)
		trees = append(trees, x)
	}
	for _, x := range trees {
		x.Decls = append(x.Decls, Decl{"spare", 1})[:len(x.Decls)]
		x.Nodes = append(x.Nodes, Node{1, 2, 3, 4, "spare", 5, []int{6}})[:len(x.Nodes)]
		for i, n := range x.Nodes {
			x.Nodes[i].List = append(n.List, -77)[:len(n.List)]
		}
		ahead := copied(x)
		Show(x)
		whole := Tree{x.Decls[:cap(x.Decls)], x.Nodes[:cap(x.Nodes)], x.Body}
		for i, n := range whole.Nodes {
			whole.Nodes[i].List = n.List[:cap(n.List)]
		}
		if !same(whole, ahead) {
			t.Errorf("Show changed %v to %v", told(ahead), told(whole))
		}
	}
}

// TestOwn holds that no name lies in the text that was read: that one isn't kept.
func TestOwn(t *testing.T) {
	text := strings.Repeat("var abc;arr d[1];", 9) + strings.Repeat("abc = d[abc];d[abc] = 1;\n", 9)
	x, _, e := Read(text)
	if e != 0 {
		t.Fatalf("Read = %d", e)
	}
	for _, d := range x.Decls {
		if meet(d.Name, text) {
			t.Errorf("the name of %v lies in the text that was read", d)
		}
	}
	for _, n := range x.Nodes {
		if meet(n.Name, text) {
			t.Errorf("the name of %v lies in the text that was read", n)
		}
	}
}

// meet tells whether two texts share memory.
func meet(a, b string) bool {
	if a == "" || b == "" {
		return false
	}
	one, two := uintptr(unsafe.Pointer(unsafe.StringData(a))), uintptr(unsafe.Pointer(unsafe.StringData(b)))
	return one < two+uintptr(len(b)) && two < one+uintptr(len(a))
}
