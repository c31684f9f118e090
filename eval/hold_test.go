package eval

import (
	"fmt"
	"math"
	"slices"
	"strings"
	"testing"

	"corral/api"
	"corral/check"
	"corral/gate"
	"corral/parse"
)

// 18.2, and the rules that hold everywhere

// maker draws a program's words: its vars are a to d, its arrs are l of 3 cells and m of 1.
type maker struct{ *draws }

// drawnText draws a program.
func drawnText(r *draws) string {
	m := maker{r}
	return "var a; arr l[3]; var b; var c; arr m[1]; var d; " + m.statements(5, 3)
}

// statements draws some.
func (m maker) statements(most, size int) string {
	var b strings.Builder
	for range m.below(most + 1) {
		b.WriteString(m.statement(size-1) + " ")
	}
	return b.String()
}

// statement draws one.
func (m maker) statement(size int) string {
	kind := m.below(10)
	if size <= 0 {
		kind %= 5
	}
	one := m.expression(3)
	switch kind {
	case 0, 1:
		return m.of("a", "b", "c", "d") + " = " + one + ";"
	case 2:
		return m.of("l[", "l[", "m[") + m.place() + "] = " + one + ";"
	case 3, 9:
		return "out " + one + ";"
	case 4:
		return m.of("exit ", "out ", "out ") + one + ";"
	case 5, 6:
		return "while " + m.expression(2) + " { " + m.statements(3, size) + "}"
	case 7:
		return "if " + one + " { " + m.statements(2, size) + "}"
	}
	return "if " + one + " { " + m.statements(2, size) + "} else { " + m.statements(2, size) + "}"
}

// place draws an expression that is mostly a cell's place.
func (m maker) place() string {
	return m.of("0", "0", m.of("0", "1", "2"), m.expression(1), "b % 3")
}

// expression draws one.
func (m maker) expression(size int) string {
	kind := m.below(11)
	if size <= 0 {
		kind %= 4
	}
	switch kind {
	case 0, 1:
		return m.of("a", "b", "c", "d")
	case 2:
		return m.of("in", "0", "1", "2", "7", "2147483648", "4294967295")
	case 3:
		return m.of("in", "in", "a", "3")
	case 4:
		return "-" + m.expression(size-1)
	case 5:
		return m.of("l[", "m[") + m.place() + "]"
	case 6:
		return "(" + m.expression(size-1) + m.of("/", "%", "+", "*") + m.expression(size-1) + ")"
	}
	return "(" + m.expression(size-1) + m.of("+", "-", "*", "<", "==") + m.expression(size-1) + ")"
}

// drawnTree draws a tree of all kinds and operations, in which nodes are had by several; wrong is how rare it is that a place or a kind isn't right, 0 for never.
func drawnTree(r *draws, wrong int) parse.Tree {
	x := tree(num(3), node(parse.In), node(parse.Var), node(parse.Out, 1), node(parse.Block, 3))
	fault := func() bool { return wrong > 0 && r.below(wrong) == 0 }
	of := func(least, most int) int { // the place of one of the last nodes of such a kind
		if fault() {
			return r.below(len(x.Nodes)+4) - 2
		}
		var fit []int
		for at, n := range x.Nodes {
			if n.Kind >= least && n.Kind <= most {
				fit = append(fit, at)
			}
		}
		return fit[len(fit)-1-r.below(min(len(fit), 5))]
	}
	for range r.below(25) {
		n := node(1 + r.below(13))
		n.A, n.B, n.V = of(1, 6), of(1, 6), []uint32{0, 1, 2, 3, 1<<32 - 1}[r.below(5)]
		switch n.Kind {
		case parse.Bin:
			n.V = uint32(3 + r.below(12))
		case parse.If, parse.While:
			if n.B = of(13, 13); r.below(2) == 0 {
				n.C = of(13, 13)
			}
		case parse.Block:
			for range r.below(5) {
				n.List = append(n.List, of(7, 12))
			}
		}
		if fault() {
			n.Kind = r.below(20) - 3
		}
		x.Nodes = append(x.Nodes, n)
	}
	x.Body = len(x.Nodes)
	x.Nodes = append(x.Nodes, node(parse.Block, of(7, 12), of(7, 12), of(7, 12), of(7, 12)))
	if fault() {
		x.Body = of(1, 13)
	}
	return x
}

// asked answers how many replies a run asked for.
func asked(l []gate.Event) int {
	n := 0
	for _, e := range l {
		if e.Gate == 2 {
			n++
		}
	}
	return n
}

// ends counts how runs ended: how many by themselves, by trap 1, by trap 2, with another number than 0, and not by themselves.
type ends [5]int

// add counts one.
func (l *ends) add(r Result) {
	switch {
	case r.Trap > 0:
		l[r.Trap]++
	case r.Code > 0:
		l[3]++
	case r.Ended:
		l[0]++
	default:
		l[4]++
	}
}

// checkAll holds that there were so many of each.
func (l *ends) checkAll(t *testing.T, least int) {
	t.Helper()
	for i, n := range l {
		if n < least {
			t.Errorf("runs ended so: %v, there are few of %d", *l, i)
		}
	}
}

// TestDrawn holds drawn programs, with drawn replies, against the plain way, with each fuel up to where they end.
func TestDrawn(t *testing.T) {
	var r draws = 182
	var l ends
	for range 5000 {
		x, _, _ := check.Read(drawnText(&r))
		replies := r.replies()
		got, _ := checkPlain(t, x, replies, 200)
		l.add(got)
		if r.below(10) == 0 {
			checkFuels(t, x, replies, got)
		}
	}
	l.checkAll(t, 100)
}

// TestDrawnTrees does so of drawn trees.
func TestDrawnTrees(t *testing.T) {
	var r draws = 183
	var l ends
	wrongs := 0
	for i := range 20000 {
		x := drawnTree(&r, 60*(i%2))
		got, e := checkPlain(t, x, r.replies(), 100)
		if e != 0 {
			wrongs++
			continue
		}
		l.add(got)
	}
	l.checkAll(t, 50)
	if wrongs < 1000 || wrongs > 12000 {
		t.Errorf("%d of 20000 trees weren't right", wrongs)
	}
}

// TestMoreFuel gives drawn programs more fuel, and more: the events that there were stay, and those that ended end alike.
func TestMoreFuel(t *testing.T) {
	var r draws = 184
	for range 2000 {
		x, _, _ := check.Read(drawnText(&r))
		replies := r.replies()
		last := Result{}
		for fuel := 0; fuel <= 3000; fuel += 1 + r.below(1+fuel) {
			now, e := Run(x, replies, fuel)
			if e != 0 || len(now.Trace) < len(last.Trace) || !slices.Equal(now.Trace[:len(last.Trace)], last.Trace) || now.Steps < last.Steps || now.Steps > fuel || !now.Ended && now.Steps != fuel {
				t.Errorf("Run(%s, %v, %d) = %s, %d, but with less fuel %s", parse.Show(x), replies, fuel, told(now), e, told(last))
			}
			if last.Ended && !same(now, last) {
				t.Errorf("Run(%s, %v, %d) = %s, but it ended as %s", parse.Show(x), replies, fuel, told(now), told(last))
			}
			if !now.Ended && (now.Trap != 0 || now.Code != 0) {
				t.Errorf("Run(%s, %v, %d) = %s", parse.Show(x), replies, fuel, told(now))
			}
			last = now
		}
	}
}

// TestMoreReplies gives drawn programs more replies than they take, others behind those that they take, and fewer where the rest is 0: all stays alike.
func TestMoreReplies(t *testing.T) {
	var r draws = 185
	more := 0
	for range 3000 {
		x, _, _ := check.Read(drawnText(&r))
		replies := r.replies()
		want, _ := Run(x, replies, 300)
		took := asked(want.Trace)
		if took <= len(replies) {
			more++
			for _, l := range [][]uint32{replies[:took], append(slices.Clone(replies[:took]), 77, 78), append(slices.Clone(replies), 1, 2, 3)} {
				if got, e := Run(x, l, 300); e != 0 || !same(got, want) {
					t.Errorf("Run(%s, %v) = %s, but with %v %s", parse.Show(x), l, told(got), replies, told(want))
				}
			}
			continue
		}
		noughts := append(slices.Clone(replies), make([]uint32, took-len(replies))...)
		if got, e := Run(x, noughts, 300); e != 0 || !same(got, want) {
			t.Errorf("Run(%s, %v) = %s, but with %v %s", parse.Show(x), noughts, told(got), replies, told(want))
		}
	}
	if more < 200 || more > 2800 {
		t.Errorf("%d of 3000 programs took no more replies than there were", more)
	}
}

// TestEvents holds what a result is like: a program that ended by itself told so in its last event alone, but for a trap, which has none.
func TestEvents(t *testing.T) {
	var r draws = 186
	for range 3000 {
		x, _, _ := check.Read(drawnText(&r))
		replies := r.replies()
		got, _ := Run(x, replies, 300)
		quits := 0
		for at, e := range got.Trace {
			switch e.Gate {
			case 0:
				if quits++; at != len(got.Trace)-1 || e.V != got.Code {
					t.Errorf("Run(%s) = %s", parse.Show(x), told(got))
				}
			case 1:
			case 2:
				if n := asked(got.Trace[:at]); n < len(replies) && e.V != replies[n] || n >= len(replies) && e.V != 0 {
					t.Errorf("Run(%s, %v) = %s: the reply %d is another one", parse.Show(x), replies, told(got), n)
				}
			default:
				t.Errorf("Run(%s) = %s", parse.Show(x), told(got))
			}
		}
		if (quits == 1) != (got.Ended && got.Trap == 0) || got.Trap < 0 || got.Trap > 2 || got.Trap > 0 && (!got.Ended || got.Code != 0) {
			t.Errorf("Run(%s) = %s", parse.Show(x), told(got))
		}
	}
}

// oddTrees are some that no text has, and some that one has, right or not.
func oddTrees() []parse.Tree {
	all := parse.Node{Kind: math.MaxInt, A: math.MinInt, B: math.MaxInt, C: -7, Name: "\xff", V: 9, List: []int{math.MinInt, 0, math.MaxInt}}
	l := []parse.Tree{{}, {Body: math.MinInt}, {Body: math.MaxInt, Decls: []parse.Decl{{Name: "", Size: math.MinInt}}}, {Nodes: []parse.Node{all}}, {Nodes: make([]parse.Node, 50), Decls: make([]parse.Decl, 50)}}
	for kind := -1; kind < 15; kind++ {
		n := all
		n.Kind = kind
		l = append(l, tree(n, node(parse.Block, 0)), tree(num(1), n, node(parse.Block, 1)))
	}
	var r draws = 187
	for range 100 {
		l = append(l, drawnTree(&r, 20), drawnTree(&r, 0))
	}
	for _, text := range []string{"", "var a; arr b[2]; a = in; while a { out a; a = a - 1; b[a] = in; } exit b[1];", "arr b[2]; b[1] = in; out b[1] / b[0];", "arr b[2]; b[2] = in;", "while 1 { out in; }", "var a; a = b;", "?"} {
		x, _, _ := parse.Read(text)
		l = append(l, x)
	}
	return l
}

// copied answers a tree in memory of its own, with the spare room of its lists as elements.
func copied(x parse.Tree) parse.Tree {
	y := parse.Tree{Decls: slices.Clone(x.Decls[:cap(x.Decls)]), Nodes: slices.Clone(x.Nodes[:cap(x.Nodes)]), Body: x.Body}
	for i, n := range y.Nodes {
		y.Nodes[i].List = slices.Clone(n.List[:cap(n.List)])
	}
	return y
}

// sameNode tells whether two nodes are alike.
func sameNode(a, b parse.Node) bool {
	return a.Kind == b.Kind && a.A == b.A && a.B == b.B && a.C == b.C && a.Name == b.Name && a.V == b.V && slices.Equal(a.List, b.List)
}

// sameTree tells whether two trees are alike.
func sameTree(a, b parse.Tree) bool {
	return a.Body == b.Body && slices.Equal(a.Decls, b.Decls) && slices.EqualFunc(a.Nodes, b.Nodes, sameNode)
}

// TestUnchanged holds that Run panics at no odd tree, replies or fuel, nor changes what it is handed, spare room included.
func TestUnchanged(t *testing.T) {
	for _, x := range oddTrees() {
		x.Decls = append(slices.Clip(x.Decls), parse.Decl{Name: "spare", Size: 7})[:len(x.Decls)]
		x.Nodes = append(slices.Clip(x.Nodes), node(2))[:len(x.Nodes)]
		for i, n := range x.Nodes {
			x.Nodes[i].List = append(slices.Clip(n.List), -77)[:len(n.List)]
		}
		ahead := copied(x)
		room := []uint32{3, 2, 1, 77, 78}
		for _, replies := range [][]uint32{nil, {}, room[:0], room[:1], room[:3], room} {
			for _, fuel := range []int{math.MinInt, -1, 0, 1, 10, 500, 100001, math.MaxInt} {
				checkPlain(t, x, replies, fuel)
			}
		}
		if behind := copied(x); !sameTree(behind, ahead) || !slices.Equal(room, []uint32{3, 2, 1, 77, 78}) {
			t.Errorf("%s was changed to %s, and replies to %v", told(ahead), told(behind), room)
		}
	}
}

// TestTwice asks the same twice, others between.
func TestTwice(t *testing.T) {
	trees, replies := oddTrees(), []uint32{3, 2, 0, 5}
	for _, x := range trees {
		for _, fuel := range []int{-1, 0, 7, 300} {
			r, e := Run(x, replies, fuel)
			for _, other := range trees[:10] {
				Run(other, []uint32{8, 9}, 100)
			}
			y := copied(x)
			y.Decls, y.Nodes = y.Decls[:len(x.Decls)], y.Nodes[:len(x.Nodes)]
			for i, n := range x.Nodes {
				y.Nodes[i].List = y.Nodes[i].List[:len(n.List)]
			}
			for _, again := range []parse.Tree{x, y} {
				if r2, e2 := Run(again, slices.Clone(replies), fuel); e != e2 || !same(r, r2) {
					t.Errorf("Run(%s, %d) = %s, %d, then %s, %d", told(x), fuel, told(r), e, told(r2), e2)
				}
			}
		}
	}
}

// TestApart changes a trace that was handed out, spare room included: the replies, and another call's answer, stay as they are.
func TestApart(t *testing.T) {
	for _, x := range oddTrees() {
		replies := []uint32{3, 2, 1}
		one, _ := Run(x, replies, 300)
		two, e := Run(x, replies, 300)
		for i := range one.Trace[:cap(one.Trace)] {
			one.Trace[:cap(one.Trace)][i] = gate.Event{Gate: 99, V: 99}
		}
		if want, f := plainRun(x, replies, 300); e != f || !same(two, want) || !slices.Equal(replies, []uint32{3, 2, 1}) {
			t.Errorf("Run(%s) = %s, %d, which another answer changed, want %s, %d", told(x), told(two), e, told(want), f)
		}
		checkPlain(t, x, replies, 300)
	}
}

// TestZero holds that beside each error there is a result of nothing, and which errors there are.
func TestZero(t *testing.T) {
	some := map[api.Errno]int{}
	for _, x := range oddTrees() {
		for _, fuel := range []int{-1, 50} {
			r, e := Run(x, []uint32{1, 2}, fuel)
			if e != 0 && !same(r, Result{}) {
				t.Errorf("Run(%s, %d) = %s, %d", told(x), fuel, told(r), e)
			}
			some[e]++
		}
	}
	for _, e := range []api.Errno{0, 1, 2, 4, 9, 10} {
		if some[e] == 0 {
			t.Errorf("the errors are %s", fmt.Sprint(some))
		}
	}
}
