package check

import (
	"math"
	"slices"
	"testing"

	"corral/parse"
)

// 17.1, Vars and Arrs

// checkWritten holds what Vars and Arrs answer against what is written out.
func checkWritten(t *testing.T, l []parse.Decl, names []string, declarations []parse.Decl) {
	t.Helper()
	x := tree(l, node(parse.Var, "other"), node(parse.Put, "more"))
	if got := Vars(x); !slices.Equal(got, names) {
		t.Errorf("Vars(%v) = %q, want %q", told(x), got, names)
	}
	if got := Arrs(x); !slices.Equal(got, declarations) {
		t.Errorf("Arrs(%v) = %v, want %v", told(x), got, declarations)
	}
	checkLists(t, x)
}

// TestLists has vars and arrs in any order: they are told in the declarations' order, none where there are none of the kind.
func TestLists(t *testing.T) {
	checkWritten(t, nil, nil, nil)
	checkWritten(t, decls(), nil, nil)
	checkWritten(t, decls(vr("a")), []string{"a"}, nil)
	checkWritten(t, decls(arr("a", 5)), nil, decls(arr("a", 5)))
	checkWritten(t, decls(vr("a"), arr("b", 2)), []string{"a"}, decls(arr("b", 2)))
	checkWritten(t, decls(arr("b", 2), vr("a")), []string{"a"}, decls(arr("b", 2)))
	checkWritten(t, decls(vr("z"), vr("a"), vr("m")), []string{"z", "a", "m"}, nil)
	checkWritten(t, decls(arr("z", 3), arr("a", 32), arr("m", 1)), nil, decls(arr("z", 3), arr("a", 32), arr("m", 1)))
	checkWritten(t, decls(arr("z", 3), vr("y"), vr("b"), arr("a", 32), vr("x"), arr("m", 1), vr("c")), []string{"y", "b", "x", "c"}, decls(arr("z", 3), arr("a", 32), arr("m", 1)))
	checkWritten(t, slices.Concat(vars(16), arrs(4, 3, 2, 1)), []string{"v0", "v1", "v2", "v3", "v4", "v5", "v6", "v7", "v8", "v9", "v10", "v11", "v12", "v13", "v14", "v15"}, decls(arr("a0", 4), arr("a1", 3), arr("a2", 2), arr("a3", 1)))
}

// TestListsOfWrong has programs that aren't right: all their vars and arrs are told nevertheless.
func TestListsOfWrong(t *testing.T) {
	checkWritten(t, decls(vr("a"), vr("a"), arr("a", 1), arr("a", 1), vr("a")), []string{"a", "a", "a"}, decls(arr("a", 1), arr("a", 1)))
	checkWritten(t, decls(arr("a", 0), arr("b", 33), arr("c", 1000), arr("d", -2), arr("e", math.MaxInt), arr("f", math.MinInt), arr("g", -1)), []string{"g"}, decls(arr("a", 0), arr("b", 33), arr("c", 1000), arr("d", -2), arr("e", math.MaxInt), arr("f", math.MinInt)))
	checkWritten(t, decls(vr(""), arr("", 3), vr("while"), vr("\xff")), []string{"", "while", "\xff"}, decls(arr("", 3)))
	for _, n := range []int{17, 18, 100, 1000} {
		x := tree(slices.Concat(vars(n), arrs(slices.Repeat([]int{n}, n)...), vars(n)))
		checkLists(t, x)
		if v, a := len(Vars(x)), len(Arrs(x)); v != 2*n || a != n {
			t.Errorf("of %d and %d there are %d vars and %d arrs", 2*n, n, v, a)
		}
	}
}

// TestListsRead has what is read.
func TestListsRead(t *testing.T) {
	x, _, _ := Read("var a; arr b[2]; var c; arr d[32]; arr e[1]; var f; out a;")
	if l, want := Vars(x), []string{"a", "c", "f"}; !slices.Equal(l, want) {
		t.Errorf("Vars = %q, want %q", l, want)
	}
	if l, want := Arrs(x), decls(arr("b", 2), arr("d", 32), arr("e", 1)); !slices.Equal(l, want) {
		t.Errorf("Arrs = %v, want %v", l, want)
	}
	for _, text := range []string{"", "out 1;", "out 1", "var a; var a;", "?"} {
		if x, _, _ := Read(text); len(Vars(x)) != 0 || len(Arrs(x)) != 0 {
			t.Errorf("of %q there are %q and %v", text, Vars(x), Arrs(x))
		}
	}
}
