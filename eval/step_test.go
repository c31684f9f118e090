package eval

import (
	"fmt"
	"math"
	"slices"
	"strings"
	"testing"

	"corral/check"
	"corral/parse"
)

// 18.1, steps and fuel

// TestSteps has each kind of statement and of expression by itself: its steps are counted by hand. (Each run is made with less fuel, too.)
func TestSteps(t *testing.T) {
	checkRuns(t,
		run{"out 1;", nil, "1 1, 0 0", 0, 0, 2},                       // Out, Num
		run{"var a; out a;", nil, "1 0, 0 0", 0, 0, 2},                // Out, Var
		run{"arr b[1]; out b[0];", nil, "1 0, 0 0", 0, 0, 3},          // Out, Get, Num
		run{"out in;", nil, "2 0, 1 0, 0 0", 0, 0, 2},                 // Out, In
		run{"out - 1;", nil, "1 -1, 0 0", 0, 0, 3},                    // Out, Neg, Num
		run{"out 1 + 2;", nil, "1 3, 0 0", 0, 0, 4},                   // Out, Bin, Num, Num
		run{"var a; a = 1;", nil, "0 0", 0, 0, 2},                     // Set, Num
		run{"arr b[1]; b[0] = 1;", nil, "0 0", 0, 0, 3},               // Put, Num, Num
		run{"if 1 { }", nil, "0 0", 0, 0, 2},                          // If, Num
		run{"if 0 { } else { }", nil, "0 0", 0, 0, 2},                 // If, Num
		run{"while 0 { }", nil, "0 0", 0, 0, 3},                       // While, its expression, Num
		run{"while in { }", []uint32{1}, "2 1, 2 0, 0 0", 0, 0, 5},    // While, its expression, In, its expression, In
		run{"exit 1;", nil, "0 1", 0, 1, 2},                           // Exit, Num
		run{"out (((1)));", nil, "1 1, 0 0", 0, 0, 2},                 // Out, Num: brackets are no nodes
		run{"if 1 { if 1 { if 1 { } } }", nil, "0 0", 0, 0, 6},        // three Ifs, three Nums: blocks are no steps
		run{"if 0 { out 1; out 2; }", nil, "0 0", 0, 0, 2},            // what isn't begun is none
		run{"out 1 + 1 / 0 + in; out 5;", nil, "", 2, 0, 7},           // Out, Bin, Bin, Num, Bin, Num, Num
		run{"exit 1; while 1 { }", nil, "0 1", 0, 1, 2},               // Exit, Num
		run{"while 1 { exit in; }", []uint32{9}, "2 9, 0 9", 0, 9, 5}, // While, its expression, Num, Exit, In
		run{strings.Repeat("out in;", 90), nil, strings.Repeat("2 0, 1 0, ", 90) + "0 0", 0, 0, 180},
	)
}

// TestUsedUp has programs whose fuel is used up: what they tell up to there is written out for each fuel.
func TestUsedUp(t *testing.T) {
	for _, x := range []struct {
		text  string
		told  []string // by the fuel, from 0 on
		steps int      // with which it ends by itself
	}{
		{"", nil, 0},
		{"out 7;", []string{"", ""}, 2},
		{"out 7; exit 3;", []string{"", "", "1 7", "1 7"}, 4},
		{"exit in;", []string{"", ""}, 2},
		{"out in + in;", []string{"", "", "", "2 5"}, 4},
		{"out in; out in;", []string{"", "", "2 5, 1 5", "2 5, 1 5"}, 4},
		{"out 1 / 0;", []string{"", "", "", ""}, 4},
		{"arr b[1]; b[in] = in;", []string{"", "", "2 5"}, 3},
		{"arr b[1]; out b[- in];", []string{"", "", "", ""}, 4},
		{"while in { out 3; exit 4; }", []string{"", "", "", "2 5", "2 5", "2 5, 1 3", "2 5, 1 3"}, 7},
		{"if in { out - 2; }", []string{"", "", "2 5", "2 5", "2 5"}, 5},
	} {
		tree, _, e := check.Read(x.text)
		if e != 0 || len(x.told) != x.steps {
			t.Fatalf("%q: %d", x.text, e)
		}
		for fuel, want := range x.told {
			r, e := checkPlain(t, tree, []uint32{5, 6}, fuel)
			if e != 0 || lines(r.Trace) != want || !same(r, Result{Trace: r.Trace, Steps: fuel}) {
				t.Errorf("Run(%q, %d) = %v, %d, want %q", x.text, fuel, r, e, want)
			}
		}
		for _, fuel := range []int{x.steps, x.steps + 1, 100000} {
			if r, e := checkPlain(t, tree, []uint32{5, 6}, fuel); e != 0 || !r.Ended || r.Steps != x.steps {
				t.Errorf("Run(%q, %d) = %v, %d, want %d steps", x.text, fuel, r, e, x.steps)
			}
		}
	}
}

// TestMost has programs of just as many steps as there may be, of one less, and of one more.
func TestMost(t *testing.T) {
	count := "var a; a = 16665; while a { a = a - 1; } " // 5 steps, and 6 each time
	checkRuns(t,
		run{count + "out 1 % 0;", nil, "", 2, 0, 99995 + 4},
		run{count + "out - 1; out 2;", nil, "1 -1, 1 2, 0 0", 0, 0, 99995 + 5},
		run{count + "if in { exit - 7; }", []uint32{1}, "2 1, 0 -7", 0, 1<<32 - 7, 99995 + 5},
	)
	for text, told := range map[string]string{"out 1 - 2 / 0;": "", "out 1; out 2; out 3;": "1 1, 1 2", "out 1; out in + 2;": "1 1, 2 0"} {
		x, _, _ := check.Read(count + text)
		if r, e := checkPlain(t, x, nil, 100000); e != 0 || lines(r.Trace) != told || !same(r, Result{Trace: r.Trace, Steps: 100000}) {
			t.Errorf("Run(%q, 100000) = %v, %d, want %q", text, r, e, told)
		}
	}
	x, _, _ := check.Read("while 1 { out in; }")
	r, e := checkPlain(t, x, []uint32{3, 4}, 100000)
	if e != 0 || r.Ended || r.Steps != 100000 || len(r.Trace) != 2*24999 || lines(r.Trace[:5]) != "2 3, 1 3, 2 4, 1 4, 2 0" {
		t.Errorf("Run(while 1 { out in; }, 100000) has %d events, %v, %d, %d", len(r.Trace), r.Ended, r.Steps, e)
	}
}

// TestArg has fuels that may not be, and ones that may.
func TestArg(t *testing.T) {
	for _, text := range []string{"", "out 7;", "while 1 { }", "arr b[2]; b[2] = 1 / 0;"} {
		x, _, _ := check.Read(text)
		for _, fuel := range []int{-1, -2, -100000, math.MinInt32, math.MinInt, 100001, 100002, 1 << 20, math.MaxInt32, 1 << 32, 1<<32 + 1, math.MaxInt} {
			checkError(t, x, fuel, 1)
		}
		for _, fuel := range []int{0, 1, 99999, 100000} {
			if _, e := checkPlain(t, x, nil, fuel); e != 0 {
				t.Errorf("Run(%q, %d): %d", text, fuel, e)
			}
		}
	}
}

// chain answers n nodes on top of others, each made of the place of the one below it, and a program that tells the last one.
func chain(n int, made func(below int) parse.Node, first ...parse.Node) parse.Tree {
	l := slices.Clone(first)
	for range n {
		l = append(l, made(len(l)-1))
	}
	return tree(append(l, node(parse.Out, len(l)-1), node(parse.Block, len(l)))...)
}

// TestDeep has expressions of more nodes, one within another, than there may be steps, and of just as many.
func TestDeep(t *testing.T) {
	for _, x := range []struct {
		name string
		each int // steps of each one
		made func(below int) parse.Node
	}{
		{"Neg", 1, func(below int) parse.Node { return node(parse.Neg, below) }},
		{"Bin to the left", 2, func(below int) parse.Node { return node(parse.Bin, below, 0) }},
		{"Bin to the right", 2, func(below int) parse.Node { return node(parse.Bin, 0, below) }},
		{"Get", 1, func(below int) parse.Node { return node(parse.Get, below) }},
	} {
		for _, n := range []int{0, 1, 2, 1000, 99998 / x.each, 99998/x.each + 1, 200000} {
			y := chain(n, x.made, num(0))
			r, e := checkPlain(t, y, nil, 100000)
			want := 2 + n*x.each
			if e != 0 || r.Ended != (want <= 100000) || r.Steps != min(want, 100000) {
				t.Errorf("of %d %s there are %d steps, %v, %d", n, x.name, r.Steps, r.Ended, e)
			}
			if r.Ended && lines(r.Trace) != "1 0, 0 0" || !r.Ended && len(r.Trace) > 0 {
				t.Errorf("%d %s tell %s", n, x.name, lines(r.Trace))
			}
		}
	}
}

// TestDeepBlocks has blocks one within another.
func TestDeepBlocks(t *testing.T) {
	for name, made := range map[string]func(below int) parse.Node{
		"If":            func(below int) parse.Node { return node(parse.If, 0, below) },
		"If with else":  func(below int) parse.Node { return node(parse.If, 1, 2, below) },
		"If with both":  func(below int) parse.Node { return node(parse.If, 0, below, below) },
		"If with wrong": func(below int) parse.Node { return node(parse.If, 0, below, 2) },
	} {
		for _, n := range []int{0, 1, 500, 49999, 50000, 120000} {
			l := []parse.Node{num(1), num(0), node(parse.Block), node(parse.Out, 0), node(parse.Block, 3)}
			for range n {
				l = append(l, made(len(l)-1))
				l = append(l, node(parse.Block, len(l)-1))
			}
			r, e := checkPlain(t, tree(l...), nil, 100000)
			want := 2*n + 2
			if e != 0 || r.Ended != (want <= 100000) || r.Steps != min(want, 100000) || r.Ended != (lines(r.Trace) == "1 1, 0 0") {
				t.Errorf("of %d %s there are %d steps, %v, %d", n, name, r.Steps, r.Ended, e)
			}
		}
	}
}

// TestDeepLoops has Whiles one within another, none of which ends.
func TestDeepLoops(t *testing.T) {
	l := []parse.Node{num(1), node(parse.Exit, 0), node(parse.Block, 1)}
	for range 33332 {
		l = append(l, node(parse.While, 0, len(l)-1))
		l = append(l, node(parse.Block, len(l)-1))
	}
	checkTree(t, tree(l...), run{trace: "0 1", code: 1, steps: 3*33332 + 2})
	l = append(l, node(parse.While, 0, len(l)-1))
	l = append(l, node(parse.Block, len(l)-1))
	if r, e := checkPlain(t, tree(l...), nil, 100000); e != 0 || !same(r, Result{Steps: 100000}) {
		t.Errorf("of a While more there are %d, %v, %d", r.Steps, r.Ended, e)
	}
}

// TestLong has blocks of very many statements.
func TestLong(t *testing.T) {
	for _, n := range []int{49999, 50000, 50001, 1000000} {
		x := tree(num(7), node(parse.Out, 0), node(parse.Block, slices.Repeat([]int{1}, n)...))
		r, e := checkPlain(t, x, nil, 100000)
		events := min(n, 50000)
		if n <= 50000 {
			events++
		}
		if e != 0 || r.Ended != (n <= 50000) || r.Steps != min(2*n, 100000) || len(r.Trace) != events {
			t.Errorf("of %d statements there are %d steps, %d events, %v, %d", n, r.Steps, len(r.Trace), r.Ended, e)
		}
	}
}

// TestShared has nodes that several have: they are worked out, or done, at each of them.
func TestShared(t *testing.T) {
	replies := []uint32{9, 4, 7}
	checkTree(t, tree(node(parse.In), bin(4, 0, 0), node(parse.Out, 1), node(parse.Block, 2)), run{replies: replies, trace: "2 9, 2 4, 1 5, 0 0", steps: 4})
	checkTree(t, tree(node(parse.In), node(parse.Out, 0), node(parse.Block, 1, 1, 1)), run{replies: replies, trace: "2 9, 1 9, 2 4, 1 4, 2 7, 1 7, 0 0", steps: 6})
	checkTree(t, tree(node(parse.In), node(parse.Out, 0), node(parse.Block, 1), node(parse.If, 0, 2, 2), node(parse.Block, 3, 1)), run{replies: replies, trace: "2 9, 2 4, 1 4, 2 7, 1 7, 0 0", steps: 6})
	checkTree(t, tree(num(2), node(parse.Put, 0, 0), node(parse.Get, 0), node(parse.Out, 2), node(parse.Block, 3, 1, 3)), run{trace: "1 0, 1 2, 0 0", steps: 9})
	checkTree(t, tree(node(parse.In), node(parse.Exit, 0), node(parse.Block, 1), node(parse.While, 0, 2), node(parse.Block, 3)), run{replies: replies, trace: "2 9, 2 4, 0 4", code: 4, steps: 5})
	twice := func(below int) parse.Node { return bin(3, below, below) }
	checkTree(t, chain(12, twice, num(1)), run{trace: "1 4096, 0 0", steps: 1 + 2*4096 - 1})
	for _, n := range []int{16, 60, 5000} {
		if r, e := checkPlain(t, chain(n, twice, num(1)), nil, 100000); e != 0 || !same(r, Result{Steps: 100000}) {
			t.Errorf("of %d that are worked out twice each there are %d steps, %v, %d", n, r.Steps, r.Ended, e)
		}
	}
}

// TestBody has trees whose Body isn't the last node, nor all there is.
func TestBody(t *testing.T) {
	x := tree(num(7), node(parse.Out, 0), node(parse.Block, 1), node(parse.Block, 1, 1), node(parse.Exit, 0), node(parse.Block))
	for at, told := range map[int]string{2: "1 7, 0 0", 3: "1 7, 1 7, 0 0", 5: "0 0"} {
		x.Body = at
		checkTree(t, x, run{trace: told, steps: 2 * strings.Count(told, "7")})
	}
	checkTree(t, tree(node(parse.Block)), run{trace: "0 0"})
	checkTree(t, parse.Tree{Nodes: []parse.Node{{Kind: parse.Block}}}, run{trace: "0 0"})
	for _, n := range []int{1, 2, 500} {
		checkTree(t, tree(slices.Repeat([]parse.Node{node(parse.Block)}, n)...), run{trace: fmt.Sprint("0 ", 0)})
	}
}
