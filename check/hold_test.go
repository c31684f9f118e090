package check

import (
	"fmt"
	"math"
	"slices"
	"strings"
	"testing"
	"unsafe"

	"corral/api"
	"corral/parse"
)

// 17.3, and the rules that hold everywhere

// TestNoNames holds that without names all is right: trees of kinds that have none, whatever else stands in them, and texts.
func TestNoNames(t *testing.T) {
	var r draws = 174
	for range 3000 {
		x := drawnTree(&r, 50)
		x.Decls = nil
		x.Nodes = slices.DeleteFunc(x.Nodes, func(n parse.Node) bool { _, has := asked[n.Kind]; return has })
		checkTree(t, x, 0)
	}
	for range 3000 {
		m := maker{draws: &r}
		text := m.statements(4, 4)
		checkRead(t, text, 0, 0)
		if x, _, _ := Read(text); len(Vars(x)) != 0 || len(Arrs(x)) != 0 {
			t.Errorf("Vars and Arrs of %q = %q, %v", short(text), Vars(x), Arrs(x))
		}
	}
}

// TestOneMore declares one more of a new name at each place: a right program stays right while there is room; of a name that is declared, it doesn't.
func TestOneMore(t *testing.T) {
	var r draws = 175
	rights := 0
	for range 2000 {
		x := drawnTree(&r, 100)
		if Right(x) != 0 {
			continue
		}
		rights++
		roomVar, roomArr := api.OK, api.OK
		if len(plainVars(x)) == 16 {
			roomVar = api.ErrSize
		}
		if len(plainArrs(x)) == 4 {
			roomArr = api.ErrSize
		}
		for at := range len(x.Decls) + 1 {
			with := func(d parse.Decl) parse.Tree {
				y := x
				y.Decls = slices.Insert(slices.Clone(x.Decls), at, d)
				return y
			}
			checkTree(t, with(vr("new")), roomVar)
			checkTree(t, with(arr("new", 1+r.below(32))), roomArr)
			checkTree(t, with(arr("new", 33)), 4)
			if len(x.Decls) > 0 {
				old := x.Decls[r.below(len(x.Decls))].Name
				checkTree(t, with(vr(old)), 9)
				checkTree(t, with(arr(old, 1)), 9)
			}
		}
	}
	if rights < 1000 {
		t.Errorf("there were %d right trees alone", rights)
	}
}

// renamed answers a tree with all its names told anew.
func renamed(x parse.Tree, anew func(name string) string) parse.Tree {
	y := parse.Tree{Decls: slices.Clone(x.Decls), Nodes: slices.Clone(x.Nodes), Body: x.Body}
	for i := range y.Decls {
		y.Decls[i].Name = anew(y.Decls[i].Name)
	}
	for i := range y.Nodes {
		y.Nodes[i].Name = anew(y.Nodes[i].Name)
	}
	return y
}

// TestRenamed tells all names of trees anew, one name for each: what Right answers stays as it is.
func TestRenamed(t *testing.T) {
	var r draws = 176
	for range 3000 {
		x := drawnTree(&r, 50)
		want := checkPlain(t, x)
		checkTree(t, renamed(x, func(name string) string { return "z" + name }), want)
		checkTree(t, renamed(x, func(name string) string { return strings.Repeat(name, 2) + "\xff" }), want)
		anew := map[string]string{}
		checkTree(t, renamed(x, func(name string) string {
			if _, ok := anew[name]; !ok {
				anew[name] = fmt.Sprint(len(anew))
			}
			return anew[name]
		}), want)
		swapped := map[string]string{"c": "a0", "a0": "c", "x1": "d0", "d0": "x1"}
		checkTree(t, renamed(x, func(name string) string {
			if other, ok := swapped[name]; ok {
				return other
			}
			return name
		}), want)
	}
}

// TestMerged tells two names of a right program's declarations as one: it isn't right any more.
func TestMerged(t *testing.T) {
	var r draws = 177
	for range 1000 {
		x := drawnTree(&r, 0)
		if len(x.Decls) < 2 || Right(x) != 0 {
			continue
		}
		one, two := x.Decls[0].Name, x.Decls[len(x.Decls)-1].Name
		checkTree(t, renamed(x, func(name string) string {
			if name == two {
				return one
			}
			return name
		}), 9)
	}
}

// oddTrees are some that no text has, and some that one has, right or not.
func oddTrees() []parse.Tree {
	l := []parse.Tree{
		{}, {Body: math.MinInt}, {Body: math.MaxInt, Decls: decls(arr("", math.MinInt), vr(""))},
		{Nodes: []parse.Node{{Kind: math.MaxInt, A: math.MinInt, B: math.MaxInt, C: -7, Name: "\xff", V: 9, List: []int{math.MinInt, 0, math.MaxInt}}}, Body: 1},
		{Nodes: make([]parse.Node, 50), Decls: make([]parse.Decl, 50)},
		tree(vars(40), node(2, "v39")), tree(arrs(5, 6, 7), node(2, "a1"), node(3, "a1")), tree(slices.Concat(vars(3), arrs(1, 2), vars(4))),
	}
	for _, text := range []string{"", "var a; arr b[2]; a = b[1]; while a { out a; out 1; }", "var a; arr b[2]; b = a;", "out x;", "?"} {
		x, _, _ := parse.Read(text)
		l = append(l, x)
	}
	return l
}

// copied answers a tree in memory of its own, with the spare room of its lists as elements.
func copied(x parse.Tree) parse.Tree {
	y := parse.Tree{Decls: slices.Clone(x.Decls[:cap(x.Decls)]), Nodes: slices.Clone(x.Nodes[:cap(x.Nodes)]), Body: x.Body}
	for i, n := range y.Nodes {
		y.Nodes[i].List = slices.Clone(n.List[:cap(n.List)])
	}
	return y
}

// TestUnchanged holds that no call panics at odd trees, nor changes what it is handed, spare room included.
func TestUnchanged(t *testing.T) {
	for _, x := range oddTrees() {
		x.Decls = append(slices.Clip(x.Decls), vr("spare"), arr("spare", 7))[:len(x.Decls)]
		x.Nodes = append(slices.Clip(x.Nodes), node(2, "spare"))[:len(x.Nodes)]
		for i, n := range x.Nodes {
			x.Nodes[i].List = append(slices.Clip(n.List), -77)[:len(n.List)]
		}
		ahead := copied(x)
		checkPlain(t, x)
		if behind := copied(x); !same(behind, ahead) {
			t.Errorf("%v was changed to %v", told(ahead), told(behind))
		}
	}
}

// TestTwice asks the same tree, and the same text, twice, others between.
func TestTwice(t *testing.T) {
	for _, x := range oddTrees() {
		e, v, a := Right(x), Vars(x), Arrs(x)
		for _, other := range oddTrees() {
			Right(other)
			Vars(other)
			Arrs(other)
		}
		y := copied(x)
		y.Decls, y.Nodes = y.Decls[:len(x.Decls)], y.Nodes[:len(x.Nodes)]
		for _, again := range []parse.Tree{x, y} {
			if e2, v2, a2 := Right(again), Vars(again), Arrs(again); e != e2 || !slices.Equal(v, v2) || !slices.Equal(a, a2) {
				t.Errorf("%v: %d, %q, %v, then %d, %q, %v", told(x), e, v, a, e2, v2, a2)
			}
		}
	}
	texts := []string{"var a; arr b[2]; a = b[1];", "out x;", "arr a[33];", "var a; var a;", "arr a[1]; out a;", "out 1", "?", ""}
	for _, text := range texts {
		x, at, e := Read(text)
		for _, other := range texts {
			Read(other)
		}
		if y, at2, e2 := Read(strings.Clone(text)); e != e2 || at != at2 || !same(x, y) {
			t.Errorf("Read(%q) = %v, %d, %d, then %v, %d, %d", text, told(x), at, e, told(y), at2, e2)
		}
	}
}

// TestZero holds that beside each error there is a tree of nothing, and beside none no place.
func TestZero(t *testing.T) {
	some := map[api.Errno]int{}
	for _, text := range []string{
		"var a; arr b[2]; a = b[1];", "", "out x;", "x = 1; var a;", "arr a[33]; out a;", "var a; var a; out a;", "arr a[1]; out a;", "var a; out 1", "out a; ?", "arr a[1001];", strings.Repeat(" ", 4001),
	} {
		x, at, e := Read(text)
		if e != 0 && (len(x.Decls) != 0 || len(x.Nodes) != 0 || x.Body != 0) || e != api.ErrForm && at != 0 || e == 0 && len(x.Nodes) == 0 {
			t.Errorf("Read(%q) = %v, %d, %d", short(text), told(x), at, e)
		}
		some[e]++
	}
	if some[0] != 2 || some[2] != 3 || some[4] != 3 || some[9] != 1 || some[10] != 1 || some[11] != 1 {
		t.Errorf("the errors are %v", some)
	}
}

// TestApart changes what a call handed out, spare room included: the tree, and another call's answer, stay as they are.
func TestApart(t *testing.T) {
	for _, x := range oddTrees() {
		ahead := copied(x)
		one, two := Vars(x), Vars(x)
		for i := range one[:cap(one)] {
			one[:cap(one)][i] = "?"
		}
		three, four := Arrs(x), Arrs(x)
		for i := range three[:cap(three)] {
			three[:cap(three)][i] = arr("?", -9)
		}
		if !slices.Equal(two, plainVars(x)) || !slices.Equal(four, plainArrs(x)) || !same(copied(x), ahead) {
			t.Errorf("of %v, which was %v, there are %q and %v", told(x), told(ahead), two, four)
		}
		checkPlain(t, x)
	}
}

// TestReadApart changes a tree that was read, spare room included: another one of the same text stays as it is.
func TestReadApart(t *testing.T) {
	text := "var a; arr b[2]; var c; while a { out b[c]; c = 1; } if c { } else { exit 1; exit 2; }"
	one, _, _ := Read(text)
	two, _, _ := Read(text)
	for i := range one.Nodes[:cap(one.Nodes)] {
		l := one.Nodes[:cap(one.Nodes)][i].List
		for j := range l[:cap(l)] {
			l[:cap(l)][j] = -99
		}
		one.Nodes[:cap(one.Nodes)][i] = node(99, "?")
	}
	for i := range one.Decls[:cap(one.Decls)] {
		one.Decls[:cap(one.Decls)][i] = arr("?", 99)
	}
	want, _, _ := parse.Read(text)
	if !same(two, want) {
		t.Errorf("Read(%q) = %v, which another answer changed, want %v", text, told(two), told(want))
	}
	checkRead(t, text, 0, 0)
}

// TestOwn holds that no name that Vars and Arrs hand out lies in the tree's memory, and none that Read does in the text's: these aren't kept.
func TestOwn(t *testing.T) {
	text := "var abcdefgh; arr bcdefghi[2]; var cdefghij; arr defghijk[3]; abcdefgh = bcdefghi[1];"
	x, _, e := Read(text)
	if e != 0 {
		t.Fatalf("Read(%q) = %d", text, e)
	}
	out := slices.Concat(Vars(x), Vars(x))
	for _, d := range slices.Concat(Arrs(x), Arrs(x)) {
		out = append(out, d.Name)
	}
	in := []string{text}
	for _, d := range x.Decls {
		in = append(in, d.Name)
	}
	for _, n := range x.Nodes {
		in = append(in, n.Name)
	}
	for i, name := range in[1:] {
		if meet(name, text) {
			t.Errorf("the name %d, %q, lies in the text that was read", i, name)
		}
	}
	for i, name := range out {
		for _, other := range slices.Concat(in, out[:i]) {
			if meet(name, other) {
				t.Errorf("the name %q that is handed out lies in the memory of %q", name, other)
			}
		}
	}
}

// meet tells whether two texts share memory.
func meet(a, b string) bool {
	if a == "" || b == "" {
		return false
	}
	one, two := uintptr(unsafe.Pointer(unsafe.StringData(a))), uintptr(unsafe.Pointer(unsafe.StringData(b)))
	return one < two+uintptr(len(b)) && two < one+uintptr(len(a))
}
