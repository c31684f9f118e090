package eval

import (
	"fmt"
	"strings"
	"testing"

	"corral/check"
	"corral/parse"
)

// 18.1, what a program does

// TestExamples has the chapter's example, those of the whole, and nothing.
func TestExamples(t *testing.T) {
	checkRuns(t,
		run{"out 7;", nil, "1 7, 0 0", 0, 0, 2},
		run{"arr a[3]; out a[3];", nil, "", 1, 0, 3},
		run{"out 1 / 0;", nil, "", 2, 0, 4},
		run{"exit in;", []uint32{5}, "2 5, 0 5", 0, 5, 2},
		run{"", nil, "0 0", 0, 0, 0},
		run{"", []uint32{5, 6}, "0 0", 0, 0, 0},
		run{"var a; arr b[32]; var c;", nil, "0 0", 0, 0, 0},
	)
	for _, fuel := range []int{0, 1, 2, 3, 4, 5, 1000, 99999, 100000} {
		x, _, _ := check.Read("while 1 { }")
		if r, e := checkPlain(t, x, nil, fuel); e != 0 || !same(r, Result{Steps: fuel}) {
			t.Errorf("Run(while 1 { }, %d) = %v, %d", fuel, r, e)
		}
	}
}

// TestFirst holds that vars and cells are 0 at first, in each run anew.
func TestFirst(t *testing.T) {
	checkRuns(t,
		run{"var a; out a;", nil, "1 0, 0 0", 0, 0, 2},
		run{"var a; out a; a = 5; out a; a = a + a; out a;", nil, "1 0, 1 5, 1 10, 0 0", 0, 0, 12},
		run{"arr b[2]; out b[0]; out b[1];", nil, "1 0, 1 0, 0 0", 0, 0, 6},
		run{"arr b[1]; out b[0]; b[0] = 7; out b[0];", nil, "1 0, 1 7, 0 0", 0, 0, 9},
		run{"arr b[32]; var i; while i < 32 { out b[i]; b[i] = 9; i = i + 1; }", nil, strings.Repeat("1 0, ", 32) + "0 0", 0, 0, 1 + 33*4 + 32*(3+3+4)},
		run{"arr b[32]; var i; while i < 32 { b[i] = i * i; i = i + 1; } out b[31] + b[5];", nil, "1 986, 0 0", 0, 0, 1 + 33*4 + 32*(5+4) + 6},
		run{"var a; var b; arr c[2]; arr d[2]; a = 1; c[1] = 2; out b; out d[1]; out c[0]; out d[0]; out c[1]; out a;", nil, "1 0, 1 0, 1 0, 1 0, 1 2, 1 1, 0 0", 0, 0, 2 + 3 + 2 + 3 + 3 + 3 + 3 + 2},
	)
}

// TestAllNames has as many vars and arrs as there may be: each keeps what it was given.
func TestAllNames(t *testing.T) {
	var decls, sets, outs, trace strings.Builder
	for i := range 16 {
		fmt.Fprintf(&decls, "var v%d;", i)
		fmt.Fprintf(&sets, "v%d = %d;", i, 100+i)
		fmt.Fprintf(&outs, "out v%d;", i)
		fmt.Fprintf(&trace, "1 %d, ", 100+i)
	}
	for i := range 4 {
		fmt.Fprintf(&decls, "arr a%d[%d];", i, 32-i)
		for _, at := range []int{0, 31 - i} {
			fmt.Fprintf(&sets, "a%d[%d] = %d;", i, at, 1000*i+at)
			fmt.Fprintf(&outs, "out a%d[%d];", i, at)
			fmt.Fprintf(&trace, "1 %d, ", 1000*i+at)
		}
	}
	checkRuns(t, run{decls.String() + sets.String() + outs.String(), nil, trace.String() + "0 0", 0, 0, 16*4 + 8*6})
}

// TestOperations has each sign's operation at its edges.
func TestOperations(t *testing.T) {
	for _, x := range []struct{ text, want string }{
		{"1 + 2", "3"}, {"4294967295 + 1", "0"}, {"2147483647 + 1", "-2147483648"},
		{"2 - 1", "1"}, {"0 - 1", "-1"}, {"2147483648 - 1", "2147483647"},
		{"3 * 4", "12"}, {"65536 * 65536", "0"}, {"4294967295 * 4294967295", "1"}, {"2147483648 * 3", "-2147483648"},
		{"7 / 2", "3"}, {"4294967289 / 2", "-3"}, {"7 / 4294967294", "-3"}, {"4294967289 / 4294967294", "3"}, {"2147483648 / 4294967295", "-2147483648"}, {"0 / 5", "0"}, {"5 / 5", "1"}, {"1 / 2147483648", "0"},
		{"7 % 2", "1"}, {"4294967289 % 2", "-1"}, {"7 % 4294967294", "1"}, {"4294967289 % 4294967294", "-1"}, {"2147483648 % 4294967295", "0"}, {"5 % 2147483648", "5"},
		{"1 < 2", "1"}, {"2 < 1", "0"}, {"2 < 2", "0"}, {"4294967295 < 0", "1"}, {"2147483648 < 2147483647", "1"}, {"2147483647 < 2147483648", "0"},
		{"1 == 1", "1"}, {"1 == 2", "0"}, {"4294967295 == 4294967295", "1"}, {"0 == 2147483648", "0"},
	} {
		checkRuns(t, run{"out " + x.text + ";", nil, "1 " + x.want + ", 0 0", 0, 0, 4})
		checkRuns(t, run{"var a; a = " + x.text + "; out a;", nil, "1 " + x.want + ", 0 0", 0, 0, 6})
	}
	for _, x := range []struct {
		text, want string
		steps      int
	}{
		{"7", "7", 2}, {"4294967295", "-1", 2}, {"2147483648", "-2147483648", 2}, {"0", "0", 2},
		{"- 7", "-7", 3}, {"- 0", "0", 3}, {"- 2147483648", "-2147483648", 3}, {"- 2147483647", "-2147483647", 3}, {"- 4294967295", "1", 3}, {"- - 7", "7", 4}, {"- - - 2147483648", "-2147483648", 5},
		{"1 - 2 - 3", "-4", 6}, {"1 - (2 - 3)", "2", 6}, {"2 + 3 * 4", "14", 6}, {"(2 + 3) * 4", "20", 6}, {"100 / 7 / 2", "7", 6}, {"100 / (7 / 2)", "33", 6}, {"100 % 7 * 5", "10", 6}, {"1 + 1 == 2", "1", 6}, {"- 7 % 4", "-3", 5}, {"- (7 % 4)", "-3", 5}, {"7 - - 4", "11", 5}, {"1 < 2 * 3", "1", 6}, {"(((9)))", "9", 2},
	} {
		checkRuns(t, run{"out " + x.text + ";", nil, "1 " + x.want + ", 0 0", 0, 0, x.steps})
	}
}

// TestEachOperation has all of chapter 1's operations, those without a sign too, on numbers at the edges.
func TestEachOperation(t *testing.T) {
	edges := []uint32{0, 1, 2, 7, 31, 32, 33, 1<<31 - 1, 1 << 31, 1<<31 + 1, 1<<32 - 7, 1<<32 - 1}
	for op := range uint32(12) {
		for _, a := range edges {
			for _, b := range edges {
				x := tree(num(a), num(b), bin(op+3, 0, 1), node(parse.Out, 2), node(parse.Block, 3))
				if r, e := checkPlain(t, x, nil, 100); e != 0 || !r.Ended || r.Steps != 4 {
					t.Errorf("Run of %d %d %d = %v, %d", a, op+3, b, r, e)
				}
			}
		}
	}
	for op, want := range map[uint32]string{8: "1 8, 0 0", 9: "1 14, 0 0", 10: "1 6, 0 0", 11: "1 12288, 0 0", 12: "1 0, 0 0"} {
		checkTree(t, tree(num(12), num(10), bin(op, 0, 1), node(parse.Out, 2), node(parse.Block, 3)), run{trace: want, steps: 4})
	}
}

// TestNoOperation has operations that chapter 1 has no result of, but for what divides by 0: they end as that does.
func TestNoOperation(t *testing.T) {
	for _, op := range []uint32{0, 1, 2, 15, 16, 23, 24, 255, 256 + 3, 65536 + 3, 1 << 31, 1<<31 + 3, 1<<32 - 1} {
		checkTree(t, tree(num(12), node(parse.In), bin(op, 0, 1), node(parse.Out, 2), node(parse.Block, 3)), run{replies: []uint32{4}, trace: "2 4", trap: 2, steps: 4})
	}
}

// TestLeft has expressions that tell in which order they are worked out.
func TestLeft(t *testing.T) {
	checkRuns(t,
		run{"out in - in;", []uint32{9, 4}, "2 9, 2 4, 1 5, 0 0", 0, 0, 4},
		run{"out in - (in - in);", []uint32{9, 4, 1}, "2 9, 2 4, 2 1, 1 6, 0 0", 0, 0, 6},
		run{"out in - in - in;", []uint32{9, 4, 1}, "2 9, 2 4, 2 1, 1 4, 0 0", 0, 0, 6},
		run{"out in - in * in;", []uint32{9, 4, 2}, "2 9, 2 4, 2 2, 1 1, 0 0", 0, 0, 6},
		run{"out in < in;", []uint32{1, 2}, "2 1, 2 2, 1 1, 0 0", 0, 0, 4},
		run{"out in / in;", []uint32{12, 4}, "2 12, 2 4, 1 3, 0 0", 0, 0, 4},
		run{"arr b[3]; b[in] = in; out b[1]; out b[2];", []uint32{1, 2}, "2 1, 2 2, 1 2, 1 0, 0 0", 0, 0, 9},
		run{"arr b[3]; b[1] = 5; out b[in] - in;", []uint32{1, 2}, "2 1, 2 2, 1 3, 0 0", 0, 0, 8},
		run{"out in / 0 + in;", []uint32{1, 2}, "2 1", 2, 0, 5},
		run{"out in + 1 / 0 + in;", []uint32{1, 2}, "2 1", 2, 0, 7},
		run{"out (in + 1) / (in - in) - in;", []uint32{1, 2, 2, 3}, "2 1, 2 2, 2 2", 2, 0, 9},
	)
}

// TestReplies has programs that take as many replies as there are, fewer, and more.
func TestReplies(t *testing.T) {
	checkRuns(t,
		run{"out in;", nil, "2 0, 1 0, 0 0", 0, 0, 2},
		run{"out in;", []uint32{}, "2 0, 1 0, 0 0", 0, 0, 2},
		run{"out in;", []uint32{0}, "2 0, 1 0, 0 0", 0, 0, 2},
		run{"out in;", []uint32{5, 6}, "2 5, 1 5, 0 0", 0, 0, 2},
		run{"out in; out in; out in;", []uint32{5, 6}, "2 5, 1 5, 2 6, 1 6, 2 0, 1 0, 0 0", 0, 0, 6},
		run{"out in; out in; out in;", []uint32{1 << 31, 1<<32 - 1, 1<<31 - 1}, "2 -2147483648, 1 -2147483648, 2 -1, 1 -1, 2 2147483647, 1 2147483647, 0 0", 0, 0, 6},
		run{"if 0 { out in; } out in;", []uint32{5, 6}, "2 5, 1 5, 0 0", 0, 0, 4},
		run{"while in { } out in;", []uint32{3, 2, 1, 0, 7}, "2 3, 2 2, 2 1, 2 0, 2 7, 1 7, 0 0", 0, 0, 1 + 4*2 + 2},
		run{"while in { } exit in;", []uint32{3, 2}, "2 3, 2 2, 2 0, 2 0, 0 0", 0, 0, 1 + 3*2 + 2},
		run{"exit in + in;", []uint32{3, 4}, "2 3, 2 4, 0 7", 0, 7, 4},
		run{"exit - in;", []uint32{3}, "2 3, 0 -3", 0, 1<<32 - 3, 3},
		run{"var a; a = in; a = in; out a;", []uint32{3, 4}, "2 3, 2 4, 1 4, 0 0", 0, 0, 6},
	)
}

// TestIf has numbers of all kinds, and each block.
func TestIf(t *testing.T) {
	checkRuns(t,
		run{"if 1 { }", nil, "0 0", 0, 0, 2},
		run{"if 0 { }", nil, "0 0", 0, 0, 2},
		run{"if 1 { } else { }", nil, "0 0", 0, 0, 2},
		run{"if 0 { } else { }", nil, "0 0", 0, 0, 2},
		run{"if 1 { out 5; } out 7;", nil, "1 5, 1 7, 0 0", 0, 0, 6},
		run{"if 0 { out 5; } out 7;", nil, "1 7, 0 0", 0, 0, 4},
		run{"if 1 { out 5; } else { out 6; } out 7;", nil, "1 5, 1 7, 0 0", 0, 0, 6},
		run{"if 0 { out 5; } else { out 6; } out 7;", nil, "1 6, 1 7, 0 0", 0, 0, 6},
		run{"if 0 { out 5; } else { }", nil, "0 0", 0, 0, 2},
		run{"if 2 { out 5; } else { out 6; }", nil, "1 5, 0 0", 0, 0, 4},
		run{"if - 1 { out 5; } else { out 6; }", nil, "1 5, 0 0", 0, 0, 5},
		run{"if 2147483648 { out 5; } else { out 6; }", nil, "1 5, 0 0", 0, 0, 4},
		run{"if 65536 * 65536 { out 5; } else { out 6; }", nil, "1 6, 0 0", 0, 0, 6},
		run{"if in { out in; } else { out 0 - in; }", []uint32{0, 4}, "2 0, 2 4, 1 -4, 0 0", 0, 0, 6},
		run{"if 1 == 2 { out 1; } else { if 0 - 1 < 0 { out 2; } }", nil, "1 2, 0 0", 0, 0, 4 + 6 + 2},
		run{"if 1 { if 0 { out 1; } else { out 2; out 3; } out 4; } else { out 5; }", nil, "1 2, 1 3, 1 4, 0 0", 0, 0, 10},
		run{"var a; a = 1; if a { a = 0; } else { a = 7; } out a;", nil, "1 0, 0 0", 0, 0, 8}, // it is asked once
	)
}

// TestWhile has blocks that are done never, once, often, and within another one.
func TestWhile(t *testing.T) {
	checkRuns(t,
		run{"while 0 { out 1; }", nil, "0 0", 0, 0, 3},
		run{"while 0 { } out 2;", nil, "1 2, 0 0", 0, 0, 5},
		run{"var a; a = 1; while a { out a; a = 0; } out 7;", nil, "1 1, 1 7, 0 0", 0, 0, 2 + 1 + 2*2 + 4 + 2},
		run{"var a; a = 2; while a { a = a - 1; }", nil, "0 0", 0, 0, 2 + 1 + 3*2 + 2*4},
		run{"var a; a = 5; while 0 < a { out a * a; a = a - 2; }", nil, "1 25, 1 9, 1 1, 0 0", 0, 0, 2 + 1 + 4*4 + 3*8},
		run{"var a; a = 2; while - a { a = a - 1; }", nil, "0 0", 0, 0, 2 + 1 + 3*3 + 2*4},
		run{"var i; var j; i = 2; while i { j = 2; while j { out i * 10 + j; j = j - 1; } i = i - 1; }", nil, "1 22, 1 21, 1 12, 1 11, 0 0", 0, 0, 2 + 1 + 3*2 + 2*(2+1+3*2+2*(6+4)+4)},
		run{"var i; while i < 3 { while 0 { } i = i + 1; }", nil, "0 0", 0, 0, 1 + 4*4 + 3*(3+4)},
		run{"var i; while i < 4 { if i % 2 { out i; } i = i + 1; } out 9;", nil, "1 1, 1 3, 1 9, 0 0", 0, 0, 1 + 5*4 + 4*(4+4) + 2*2 + 2},
		run{"var i; i = 1000; while i { i = i - 1; } exit 3;", nil, "0 3", 0, 3, 2 + 1 + 1001*2 + 1000*4 + 2},
	)
}

// TestExit has programs that end ahead of their end.
func TestExit(t *testing.T) {
	checkRuns(t,
		run{"exit 3;", nil, "0 3", 0, 3, 2},
		run{"exit 0;", nil, "0 0", 0, 0, 2},
		run{"exit - 1;", nil, "0 -1", 0, 1<<32 - 1, 3},
		run{"exit 2147483648;", nil, "0 -2147483648", 0, 1 << 31, 2},
		run{"out 1; exit 3; out 2;", nil, "1 1, 0 3", 0, 3, 4},
		run{"exit 1; exit 2;", nil, "0 1", 0, 1, 2},
		run{"exit 1; out 1 / 0;", nil, "0 1", 0, 1, 2},
		run{"if 1 { exit 4; out 5; } out 6;", nil, "0 4", 0, 4, 4},
		run{"if 0 { exit 4; } else { exit 5; out 1; } exit 6;", nil, "0 5", 0, 5, 4},
		run{"if 0 { exit 4; } out 6;", nil, "1 6, 0 0", 0, 0, 4},
		run{"while 1 { exit 4; out 5; } out 6;", nil, "0 4", 0, 4, 5},
		run{"var i; while 1 { if i == 3 { exit i * 2; } out i; i = i + 1; }", nil, "1 0, 1 1, 1 2, 0 6", 0, 6, 1 + 4*2 + 4*4 + 3*(2+4) + 4},
		run{"while 1 { while 1 { while in { exit 7; } } } ", []uint32{0, 0, 5}, "2 0, 2 0, 2 5, 0 7", 0, 7, 1 + 2 + 1 + 2 + 1 + 2 + 2 + 1 + 2 + 2 + 1 + 2 + 2},
		run{"exit 1 / 0;", nil, "", 2, 0, 4},
		run{"arr b[1]; exit b[1];", nil, "", 1, 0, 3},
	)
}

// TestCells has the places of cells: the first one, the last one, and ones that aren't there.
func TestCells(t *testing.T) {
	for _, size := range []int{1, 2, 3, 31, 32} {
		has := fmt.Sprintf("arr b[%d]; ", size)
		for _, at := range []int{0, size / 2, size - 1} {
			checkRuns(t,
				run{has + fmt.Sprintf("out b[%d];", at), nil, "1 0, 0 0", 0, 0, 3},
				run{has + fmt.Sprintf("b[%d] = 7; out b[%d];", at, at), nil, "1 7, 0 0", 0, 0, 6},
				run{has + fmt.Sprintf("b[%d - 1] = 7; out b[0 - 1 + %d];", at+1, at+1), nil, "1 7, 0 0", 0, 0, 12},
			)
		}
		for _, at := range []string{fmt.Sprint(size), fmt.Sprint(size + 1), fmt.Sprint(size + 32), "256", "65536", "1073741824", "2147483647", "2147483648", fmt.Sprint(1<<31 + size - 1), fmt.Sprint(1<<32 - size), "4294967294", "4294967295"} {
			checkRuns(t,
				run{has + "out 5; out b[" + at + "];", nil, "1 5", 1, 0, 5},
				run{has + "out 5; b[" + at + "] = 7; out 6;", nil, "1 5", 1, 0, 5},
			)
		}
		checkRuns(t,
			run{has + "out b[- 1];", nil, "", 1, 0, 4},
			run{has + "b[- 1] = 6;", nil, "", 1, 0, 4},
			run{has + "out b[0 - 2147483648];", nil, "", 1, 0, 5},
		)
	}
	checkRuns(t, run{"arr b[3]; arr c[2]; arr d[3]; b[2] = 1; d[0] = 4; d[2] = 3; out c[2];", nil, "", 1, 0, 12}) // each arr has its own size
	checkRuns(t, run{"arr b[3]; arr c[2]; b[b[1] + 2] = 1; c[b[b[2] + 1]] = 8; out c[0]; out c[1];", nil, "1 0, 1 8, 0 0", 0, 0, 6 + 7 + 6})
}

// TestTraps has traps at all places, with no event of their own; events ahead of them stay.
func TestTraps(t *testing.T) {
	checkRuns(t,
		run{"out 1 % 0;", nil, "", 2, 0, 4},
		run{"out 0 / 0;", nil, "", 2, 0, 4},
		run{"out 0 % 0;", nil, "", 2, 0, 4},
		run{"out 5; out 2147483648 / 0; out 6;", nil, "1 5", 2, 0, 6},
		run{"out 2 + 1 / 0;", nil, "", 2, 0, 6},
		run{"out - (1 / 0);", nil, "", 2, 0, 5},
		run{"out in % in;", []uint32{7}, "2 7, 2 0", 2, 0, 4},
		run{"var a; a = 1 / a; out 5;", nil, "", 2, 0, 4},
		run{"while 1 / 0 { out 1; }", nil, "", 2, 0, 5},
		run{"while 1 % 0 { out 1; }", nil, "", 2, 0, 5},
		run{"arr b[1]; while b[1] { out 1; }", nil, "", 1, 0, 4},
		run{"var a; a = 2; while 6 / a { out a; a = a - 1; }", nil, "1 2, 1 1", 2, 0, 2 + 1 + 3*4 + 2*6},
		run{"if 1 / 0 { out 1; } else { out 2; }", nil, "", 2, 0, 4},
		run{"if 1 % 0 { out 1; }", nil, "", 2, 0, 4},
		run{"arr b[2]; if b[2] { out 1; } else { out 2; }", nil, "", 1, 0, 3},
		run{"arr b[2]; if 1 { while 1 { out 3; out b[5]; } }", nil, "1 3", 1, 0, 2 + 1 + 2 + 2 + 3},
		run{"arr b[2]; out 1 + b[2];", nil, "", 1, 0, 5},
		run{"arr b[2]; out b[b[2]];", nil, "", 1, 0, 4},
		run{"arr b[2]; out b[1 / 0];", nil, "", 2, 0, 5},
		run{"arr b[2]; var a; a = b[2];", nil, "", 1, 0, 3},
		run{"arr b[2]; out b[2] + 1 / 0;", nil, "", 1, 0, 4},
		run{"arr b[2]; out 1 / 0 + b[2];", nil, "", 2, 0, 5},
		run{"arr b[2]; out b[2] / 0;", nil, "", 1, 0, 4},
	)
}

// TestPutTraps has Puts whose place, value or both trap: the place is worked out, then the value, and then it traps.
func TestPutTraps(t *testing.T) {
	checkRuns(t,
		run{"arr b[2]; b[2] = 7; out 1;", nil, "", 1, 0, 3},
		run{"arr b[2]; b[2] = 1 / 0;", nil, "", 2, 0, 5},
		run{"arr b[2]; b[2] = 1 % 0;", nil, "", 2, 0, 5},
		run{"arr b[2]; b[- 1] = 1 / 0;", nil, "", 2, 0, 6},
		run{"arr b[2]; b[1] = 1 / 0;", nil, "", 2, 0, 5},
		run{"arr b[2]; b[1] = b[2];", nil, "", 1, 0, 4},
		run{"arr b[2]; arr c[9]; b[5] = c[5]; out 1;", nil, "", 1, 0, 4},
		run{"arr b[2]; b[2] = in;", []uint32{9}, "2 9", 1, 0, 3},
		run{"arr b[2]; b[in] = in;", []uint32{2, 8}, "2 2, 2 8", 1, 0, 3},
		run{"arr b[2]; b[in] = in / in;", []uint32{2, 8}, "2 2, 2 8, 2 0", 2, 0, 5},
		run{"arr b[2]; b[in + 7] = in + in; out 1;", []uint32{2, 8, 9}, "2 2, 2 8, 2 9", 1, 0, 7},
		run{"arr b[2]; b[1 / 0] = in;", []uint32{9}, "", 2, 0, 4},
		run{"arr b[2]; b[b[2]] = in;", []uint32{9}, "", 1, 0, 3},
		run{"arr b[2]; b[b[2]] = 1 / 0;", nil, "", 1, 0, 3},
		run{"arr b[2]; b[0] = 5; b[1] = b[0] + b[0]; b[0] = b[1]; out b[0];", nil, "1 10, 0 0", 0, 0, 3 + 7 + 4 + 3},
		run{"arr b[2]; var a; while 1 { out a; b[a] = a; a = a + 1; }", nil, "1 0, 1 1, 1 2", 1, 0, 1 + 3*2 + 3*2 + 3*3 + 2*4},
	)
}
