package eval

import (
	"fmt"
	"math"
	"slices"
	"testing"

	"corral/api"
	"corral/check"
	"corral/parse"
)

// 18.1, errors of trees

// around are nodes around one that is looked at: a number, a statement and a block ahead of it, at 0 to 2, and behind it, at 4 to 6.
func around(n parse.Node) parse.Tree {
	x := tree(num(7), node(parse.Out, 0), node(parse.Block, 1), n, num(8), node(parse.Out, 4), node(parse.Block, 5))
	x.Body = 2
	return x
}

// nowhere are places at which there is no node that the one at 3 may have, whatever its kind.
var nowhere = []int{3, 4, 5, 6, 7, 8, 1000, math.MaxInt32, 1 << 32, 1<<32 + 2, math.MaxInt, -1, -2, -7, math.MinInt32, math.MinInt}

// TestParts has each kind of node with each thing that it may have, and with all that it may not: itself, ones behind it, ones that aren't there, and ones of other kinds.
func TestParts(t *testing.T) {
	for kind, has := range map[int]string{parse.Get: "n", parse.Neg: "n", parse.Bin: "nn", parse.Set: "n", parse.Put: "nn", parse.If: "nb", parse.While: "nb", parse.Out: "n", parse.Exit: "n"} {
		checkParts(t, kind, has)
	}
	checkParts(t, parse.If, "nbb")
	for n := range 5 {
		checkParts(t, parse.Block, "sssss"[:n])
	}
}

// checkParts holds what Run answers of a node of a kind that has these: n is a number, s a statement, b a block.
func checkParts(t *testing.T, kind int, has string) {
	t.Helper()
	right := map[byte]int{'n': 0, 's': 1, 'b': 2}
	places := make([]int, len(has))
	for i := range has {
		places[i] = right[has[i]]
	}
	checkForm(t, around(node(kind, places...)), 0)
	for i := range has {
		for _, at := range append(slices.Clone(nowhere), 0, 1, 2) {
			others := slices.Clone(places)
			others[i] = at
			want := api.ErrForm
			if at == places[i] || kind == parse.If && i == 2 && at == -1 {
				want = 0
			}
			checkForm(t, around(node(kind, others...)), want)
		}
	}
}

// checkForm holds the error of a tree against what is written out, whichever block its Body is, and with the wrong fuel.
func checkForm(t *testing.T, x parse.Tree, want api.Errno) {
	t.Helper()
	for _, body := range []int{2, 6} {
		x.Body = body
		for _, fuel := range []int{0, 100, 100000} {
			if want != 0 {
				checkError(t, x, fuel, want)
			} else if _, e := checkPlain(t, x, nil, fuel); e != 0 {
				t.Errorf("Run(%s) = %d", told(x), e)
			}
		}
		for _, fuel := range []int{-1, 100001} {
			checkError(t, x, fuel, max(want, 1)) // ErrForm, 2, is ahead of ErrArg, 1
		}
	}
}

// TestKinds has nodes of kinds that are none, alone and had by others.
func TestKinds(t *testing.T) {
	for _, kind := range []int{0, -1, 14, 15, 255, 256 + 1, 1 << 32, 1<<32 + 1, math.MaxInt, math.MinInt} {
		checkForm(t, around(node(kind)), 2)
		checkForm(t, around(node(kind, 0, 2)), 2)
		for _, x := range []parse.Tree{
			tree(node(kind), node(parse.Block)),
			tree(node(parse.Block), node(kind)),
			tree(node(kind)),
			tree(node(kind), node(parse.Out, 0), node(parse.Block, 1)),
			tree(node(kind), node(parse.Block, 0)),
			tree(num(1), node(kind), node(parse.If, 0, 1), node(parse.Block, 2)),
		} {
			checkError(t, x, 100, 2)
		}
	}
}

// TestBodies has Bodies that are no block's place.
func TestBodies(t *testing.T) {
	x := around(node(parse.In))
	for at := range 7 {
		x.Body = at
		want := api.ErrForm
		if at == 2 || at == 6 {
			want = 0
		}
		if r, e := checkPlain(t, x, nil, 100); e != want || e != 0 && !same(r, Result{}) {
			t.Errorf("Run with the body %d = %v, %d, want %d", at, r, e, want)
		}
	}
	for _, at := range []int{7, 8, 13, 1000, 1<<32 + 2, math.MaxInt, -1, -2, math.MinInt} {
		x.Body = at
		checkError(t, x, 100, 2)
		checkError(t, x, -1, 2)
		checkError(t, parse.Tree{Body: at}, 100, 2)
	}
	checkError(t, parse.Tree{}, 0, 2)
	checkError(t, parse.Tree{}, -1, 2)
	checkError(t, parse.Tree{Nodes: []parse.Node{}}, 0, 2)
	for _, n := range []parse.Node{num(1), node(parse.Var), node(parse.In)} {
		checkError(t, tree(n), 100, 2)
	}
}

// TestUnreached has a node that isn't right, which Body doesn't lead to: behind all, and ahead of all.
func TestUnreached(t *testing.T) {
	for _, wrong := range []parse.Node{node(parse.Out, 99), node(parse.Neg, -1), node(parse.Block, -1), node(0), node(parse.If, 99, 99), node(parse.Bin, math.MinInt, 0)} {
		x := tree(num(7), node(parse.Out, 0), node(parse.Block, 1))
		x.Nodes = append(x.Nodes, wrong)
		checkError(t, x, 100, 2)
		y := tree(wrong, num(7), node(parse.Out, 1), node(parse.Block, 2))
		checkError(t, y, 100, 2)
		checkError(t, tree(num(7), node(parse.Exit, 0), wrong, node(parse.Block, 1)), 100, 2)
	}
}

// TestOtherFields has nodes with fields that their kind doesn't have: these are asked for nothing.
func TestOtherFields(t *testing.T) {
	for _, at := range append(slices.Clone(nowhere), 0, 1, 2) {
		for _, kind := range []int{parse.Num, parse.Var, parse.In} {
			n := node(kind, at, at, at)
			n.List = []int{at}
			checkForm(t, around(n), 0)
		}
		for _, kind := range []int{parse.Get, parse.Neg, parse.Set, parse.Out, parse.Exit} {
			n := node(kind, 0, at, at)
			n.List = []int{at, at}
			checkForm(t, around(n), 0)
		}
		for _, kind := range []int{parse.Bin, parse.Put} {
			n := node(kind, 0, 0, at)
			n.List = []int{at}
			checkForm(t, around(n), 0)
		}
		n := node(parse.While, 0, 2, at)
		n.V, n.Name, n.List = 99, "nobody", []int{at}
		checkForm(t, around(n), 0)
		n = node(parse.If, 0, 2, -1)
		n.List = []int{at}
		checkForm(t, around(n), 0)
		n = node(parse.Block, 1, 1)
		n.A, n.B, n.C, n.Name = at, at, at, "nobody"
		checkForm(t, around(n), 0)
	}
}

// TestOrder has trees with several faults: Right's errors are ahead of ErrForm, and that is ahead of ErrArg.
func TestOrder(t *testing.T) {
	twice := []parse.Decl{{Name: "a", Size: -1}, {Name: "a", Size: 2}}
	great := []parse.Decl{{Name: "x", Size: -1}, {Name: "l", Size: 33}}
	for _, x := range []struct {
		decls []parse.Decl
		node  parse.Node
		want  api.Errno
	}{
		{twice, node(parse.In), 9},
		{great, node(parse.In), 4},
		{[]parse.Decl{{Name: "l", Size: 0}}, node(parse.In), 4},
		{nil, node(parse.Var), 10},
		{nil, node(parse.Put, 0, 0), 10},
		{[]parse.Decl{{Name: "x", Size: 1}}, node(parse.Set, 0), 11},
		{[]parse.Decl{{Name: "l", Size: -1}}, node(parse.Get, 0), 11},
	} {
		for _, wrong := range []parse.Node{node(parse.In), node(parse.Out, 99), node(0)} {
			for _, body := range []int{4, 0, -1, 99} {
				for _, fuel := range []int{100, 0, -1, 100001} {
					checkError(t, parse.Tree{Decls: x.decls, Nodes: []parse.Node{num(0), wrong, x.node, node(parse.Block), node(parse.Block)}, Body: body}, fuel, x.want)
				}
			}
		}
	}
	checkError(t, parse.Tree{Decls: great}, -1, 4)
	checkError(t, parse.Tree{Decls: twice, Body: -1}, 100001, 9)
}

// TestRead holds that all that is read of a text may be run, whatever fuel and replies there are.
func TestRead(t *testing.T) {
	var r draws = 181
	for range 3000 {
		text := drawnText(&r)
		x, _, e := check.Read(text)
		if e != 0 {
			t.Fatalf("%q isn't right: %d", text, e)
		}
		if _, e := Run(x, r.replies(), r.below(500)); e != 0 {
			t.Errorf("Run(%q): %d", text, e)
		}
		for at := range x.Nodes { // and that any node of it without those ahead may not, but for those that have none
			y := parse.Tree{Decls: x.Decls, Nodes: []parse.Node{x.Nodes[at], node(parse.Block)}, Body: 1}
			want := api.ErrForm
			if n := x.Nodes[at]; n.Kind == 1 || n.Kind == 2 || n.Kind == 4 || n.Kind == 13 && len(n.List) == 0 {
				want = 0
			}
			if _, e := checkPlain(t, y, nil, 100); e != want {
				t.Errorf("Run(%s): %d, want %d", fmt.Sprint(y), e, want)
			}
		}
	}
}
