package eval

import (
	"fmt"
	"math/big"
	"slices"
	"strings"
	"testing"

	"corral/api"
	"corral/check"
	"corral/gate"
	"corral/parse"
)

// This file has the chapter's words written out once more, without anything that is called within itself, and without panics: what is still to be done stands in a list, and numbers that were worked out in another one.

// parts tells what nodes of a kind have, letter by letter: e is a node of an expression, b a block, and ? a block that may be missing.
var parts = map[int]string{1: "", 2: "", 3: "e", 4: "", 5: "e", 6: "ee", 7: "e", 8: "ee", 9: "eb?", 10: "eb", 11: "e", 12: "e"}

// plainIs tells whether a place is one of a node of a kind from least to most, ahead of a place.
func plainIs(t parse.Tree, at, ahead, least, most int) bool {
	return at >= 0 && at < ahead && t.Nodes[at].Kind >= least && t.Nodes[at].Kind <= most
}

// plainFormed tells whether nodes stand as they have to, by the chapter's words.
func plainFormed(t parse.Tree) bool {
	for at, n := range t.Nodes {
		has, ok := parts[n.Kind]
		if !ok && n.Kind != 13 {
			return false
		}
		for i, part := range has {
			place := []int{n.A, n.B, n.C}[i]
			switch {
			case part == '?' && place == -1:
			case part == 'e' && !plainIs(t, place, at, 1, 6):
				return false
			case part != 'e' && !plainIs(t, place, at, 13, 13):
				return false
			}
		}
		for _, place := range n.List {
			if n.Kind == 13 && !plainIs(t, place, at, 7, 12) {
				return false
			}
		}
	}
	return plainIs(t, t.Body, len(t.Nodes), 13, 13)
}

// whole answers a number of any size as one of 32 bits.
func whole(n *big.Int) uint32 {
	return uint32(new(big.Int).Mod(n, big.NewInt(1<<32)).Uint64())
}

// signed answers a number, read with a sign.
func signed(a uint32) *big.Int {
	n := big.NewInt(int64(a))
	if a >= 1<<31 {
		n.Sub(n, big.NewInt(1<<32))
	}
	return n
}

// plainOp does an operation by chapter 1's words; there may be no result.
func plainOp(op, a, b uint32) (uint32, bool) {
	x, y, z := signed(a), signed(b), new(big.Int)
	one := func(is bool) (uint32, bool) {
		if is {
			return 1, true
		}
		return 0, true
	}
	switch op {
	case 3:
		return whole(z.Add(x, y)), true
	case 4:
		return whole(z.Sub(x, y)), true
	case 5:
		return whole(z.Mul(x, y)), true
	case 6, 7:
		if b == 0 {
			return 0, false
		}
		q, r := z.QuoRem(x, y, new(big.Int))
		return []uint32{whole(q), whole(r)}[op-6], true
	case 8:
		return a & b, true
	case 9:
		return a | b, true
	case 10:
		return a ^ b, true
	case 11:
		return whole(z.Lsh(x, uint(b%32))), true
	case 12:
		return whole(z.Rsh(big.NewInt(int64(a)), uint(b%32))), true
	case 13:
		return one(x.Cmp(y) < 0)
	case 14:
		return one(a == b)
	}
	return 0, false
}

// machine does a program.
type machine struct {
	nodes   []parse.Node
	sizes   map[string]int
	vars    map[string]uint32
	cells   map[string]uint32 // by the arr's name and the place
	replies []uint32
	todo    []func() // what comes next stands last
	known   []uint32 // what was worked out
	fuel    int
	over    bool
	r       Result
}

// plainRun runs a program by the chapter's words.
func plainRun(t parse.Tree, replies []uint32, fuel int) (Result, api.Errno) {
	if e := check.Right(t); e != 0 {
		return Result{}, e
	}
	if !plainFormed(t) {
		return Result{}, 2
	}
	if fuel < 0 || fuel > 100000 {
		return Result{}, 1
	}
	m := &machine{nodes: t.Nodes, sizes: map[string]int{}, vars: map[string]uint32{}, cells: map[string]uint32{}, replies: replies, fuel: fuel}
	for _, d := range t.Decls {
		m.sizes[d.Name] = d.Size
	}
	m.then(func() { m.statements(t.Body) }, func() { m.end(0) })
	for !m.over {
		next := m.todo[len(m.todo)-1]
		m.todo = m.todo[:len(m.todo)-1]
		next()
	}
	return m.r, 0
}

// then puts off what is to be done, in this order.
func (m *machine) then(l ...func()) {
	slices.Reverse(l)
	m.todo = append(m.todo, l...)
}

// last answers the number that was worked out last, and forgets it.
func (m *machine) last() uint32 {
	v := m.known[len(m.known)-1]
	m.known = m.known[:len(m.known)-1]
	return v
}

// tells adds an event.
func (m *machine) tells(of int, v uint32) {
	m.r.Trace = append(m.r.Trace, gate.Event{Gate: of, V: v})
}

// end ends it with a number.
func (m *machine) end(code uint32) {
	m.tells(0, code)
	m.over, m.r.Ended, m.r.Code = true, true, code
}

// traps ends it with a trap.
func (m *machine) traps(n int) { m.over, m.r.Ended, m.r.Trap = true, true, n }

// step makes one, and then what is behind it, or is over.
func (m *machine) step(then func()) {
	if m.fuel--; m.fuel < 0 {
		m.over = true
		return
	}
	m.r.Steps++
	then()
}

// statements puts off all of a block.
func (m *machine) statements(block int) {
	if block < 0 {
		return
	}
	l := m.nodes[block].List
	var next func(i int)
	next = func(i int) { // one by one, as a block may have very many
		if i < len(l) {
			m.then(func() { m.step(func() { m.statement(m.nodes[l[i]]) }) }, func() { next(i + 1) })
		}
	}
	next(0)
}

// statement does one, or puts it off.
func (m *machine) statement(n parse.Node) {
	a, b := func() { m.value(n.A) }, func() { m.value(n.B) }
	switch n.Kind {
	case 7:
		m.then(a, func() { m.vars[n.Name] = m.last() })
	case 8:
		m.then(a, b, func() {
			v := m.last()
			if at, ok := m.cell(n.Name); ok {
				m.cells[at] = v
			}
		})
	case 9:
		m.then(a, func() {
			if m.last() == 0 {
				m.statements(n.C)
			} else {
				m.statements(n.B)
			}
		})
	case 10:
		m.again(n)
	case 11:
		m.then(a, func() { m.tells(1, m.last()) })
	case 12:
		m.then(a, func() { m.end(m.last()) })
	}
}

// again puts off the expression of a While, and what is behind it.
func (m *machine) again(n parse.Node) {
	m.then(func() { m.step(func() { m.value(n.A) }) }, func() {
		if m.last() != 0 {
			m.then(func() { m.statements(n.B) }, func() { m.again(n) })
		}
	})
}

// value makes the step of the node of an expression, and puts off what it has.
func (m *machine) value(at int) {
	n := m.nodes[at]
	m.step(func() {
		l := []func(){func() { m.value(n.A) }, func() { m.value(n.B) }}[:len(parts[n.Kind])]
		m.then(append(l, func() { m.number(n) })...)
	})
}

// number works a node out, as those that it has are known.
func (m *machine) number(n parse.Node) {
	var v uint32
	switch n.Kind {
	case 1:
		v = n.V
	case 2:
		v = m.vars[n.Name]
	case 3:
		at, _ := m.cell(n.Name)
		v = m.cells[at]
	case 4:
		if len(m.replies) > 0 {
			v, m.replies = m.replies[0], m.replies[1:]
		}
		m.tells(2, v)
	case 5:
		v, _ = plainOp(4, 0, m.last())
	case 6:
		b := m.last()
		got, ok := plainOp(n.V, m.last(), b)
		if v = got; !ok {
			m.traps(2)
		}
	}
	m.known = append(m.known, v)
}

// cell answers the arr's cell at the number that was worked out last, or traps.
func (m *machine) cell(name string) (string, bool) {
	at := signed(m.last())
	if at.Sign() < 0 || at.Cmp(big.NewInt(int64(m.sizes[name]))) >= 0 {
		m.traps(1)
		return "", false
	}
	return name + " " + at.String(), true
}

// same tells whether two results are alike.
func same(a, b Result) bool {
	return slices.Equal(a.Trace, b.Trace) && a.Ended == b.Ended && a.Trap == b.Trap && a.Code == b.Code && a.Steps == b.Steps
}

// short answers a text's beginning, for what a test tells.
func short(text string) string { return text[:min(len(text), 300)] }

// told answers a tree, a result or replies, for what a test tells.
func told(x any) string { return short(fmt.Sprint(x)) }

// lines answers events as one line.
func lines(l []gate.Event) string {
	return strings.TrimSuffix(strings.ReplaceAll(gate.Text(l), "\n", ", "), ", ")
}

// checkPlain holds what Run answers against the plain way, and answers it.
func checkPlain(t *testing.T, x parse.Tree, replies []uint32, fuel int) (Result, api.Errno) {
	t.Helper()
	r, e := Run(x, replies, fuel)
	if want, f := plainRun(x, replies, fuel); e != f || !same(r, want) {
		t.Errorf("Run(%s, %s, %d) = %s, %d, want %s, %d", told(x), told(replies), fuel, told(r), e, told(want), f)
	}
	return r, e
}

// checkFuels holds that with less fuel than a result's steps there are its first events and no end, with as much the result; and with more the result if the program ended.
func checkFuels(t *testing.T, x parse.Tree, replies []uint32, r Result) {
	t.Helper()
	least := 0
	if r.Steps > 300 { // of a long run the last ones alone
		least = r.Steps - 8
	}
	for fuel := least; fuel < r.Steps; fuel++ {
		less, e := checkPlain(t, x, replies, fuel)
		if e != 0 || less.Ended || less.Trap != 0 || less.Code != 0 || less.Steps != fuel || len(less.Trace) > len(r.Trace) || !slices.Equal(less.Trace, r.Trace[:len(less.Trace)]) {
			t.Errorf("Run(%s, %s, %d) = %s, %d, but of %d steps it is %s", told(x), told(replies), fuel, told(less), e, r.Steps, told(r))
		}
	}
	fuels := []int{r.Steps, r.Steps + 1, r.Steps + 7, 99999, 100000}
	if !r.Ended {
		fuels = []int{r.Steps}
	}
	for _, fuel := range fuels {
		if fuel > 100000 || fuel < r.Steps {
			continue
		}
		if y, e := checkPlain(t, x, replies, fuel); e != 0 || !same(y, r) {
			t.Errorf("Run(%s, %s, %d) = %s, %d, want %s", told(x), told(replies), fuel, told(y), e, told(r))
		}
	}
}

// run is a program, its replies, and what is written out of its result: its events, its trap or its number, and its steps.
type run struct {
	text    string
	replies []uint32
	trace   string
	trap    int
	code    uint32
	steps   int
}

// checkRuns holds what Run answers of texts against what is written out, and with less fuel.
func checkRuns(t *testing.T, l ...run) {
	t.Helper()
	for _, x := range l {
		tree, _, e := check.Read(x.text)
		if e != 0 {
			t.Fatalf("%q isn't right: %d", x.text, e)
		}
		checkTree(t, tree, x)
	}
}

// checkTree holds what Run answers of a tree against what is written out, whatever its text, and with less fuel.
func checkTree(t *testing.T, tree parse.Tree, x run) {
	t.Helper()
	r, e := checkPlain(t, tree, x.replies, 100000)
	if e != 0 || lines(r.Trace) != x.trace || !r.Ended || r.Trap != x.trap || r.Code != x.code || r.Steps != x.steps {
		t.Errorf("Run(%q %s, %s) = %q, %v, %d, %d, %d, %d, want %q, %d, %d, %d", short(x.text), told(tree), told(x.replies), short(lines(r.Trace)), r.Ended, r.Trap, r.Code, r.Steps, e, short(x.trace), x.trap, x.code, x.steps)
	}
	checkFuels(t, tree, x.replies, r)
}

// checkError holds what Run answers of a tree against an error that is written out.
func checkError(t *testing.T, x parse.Tree, fuel int, want api.Errno) {
	t.Helper()
	r, e := checkPlain(t, x, []uint32{5, 6}, fuel)
	if e != want || !same(r, Result{}) {
		t.Errorf("Run(%s, 5 6, %d) = %s, %d, want %d", told(x), fuel, told(r), e, want)
	}
}

// tree answers one of nodes, the last one being its Body.
func tree(nodes ...parse.Node) parse.Tree {
	return parse.Tree{Decls: []parse.Decl{{Name: "x", Size: -1}, {Name: "l", Size: 3}}, Nodes: nodes, Body: len(nodes) - 1}
}

// node answers one of a kind, with what it has.
func node(kind int, has ...int) parse.Node {
	n := parse.Node{Kind: kind, A: -1, B: -1, C: -1}
	switch kind {
	case parse.Var, parse.Set:
		n.Name = "x"
	case parse.Get, parse.Put:
		n.Name = "l"
	case parse.Bin:
		n.V = api.Add
	case parse.Block:
		n.List = has
		return n
	}
	for i, at := range has {
		*[]*int{&n.A, &n.B, &n.C}[i] = at
	}
	return n
}

// num answers a number's node.
func num(v uint32) parse.Node { return parse.Node{Kind: parse.Num, A: -1, B: -1, C: -1, V: v} }

// bin answers an operation's node.
func bin(op uint32, a, b int) parse.Node {
	return parse.Node{Kind: parse.Bin, A: a, B: b, C: -1, V: op}
}

// draws are numbers that follow each other by a rule, so that each run of the tests has the same.
type draws uint32

// below draws one from 0 to below n.
func (r *draws) below(n int) int {
	*r = *r*1664525 + 1013904223
	return int(uint64(*r) * uint64(n) >> 32)
}

// of draws one of a list.
func (r *draws) of(l ...string) string { return l[r.below(len(l))] }

// replies draws some.
func (r *draws) replies() []uint32 {
	var l []uint32
	for range r.below(6) {
		l = append(l, []uint32{0, 1, 2, 3, uint32(r.below(40)), 1<<32 - 1, 1 << 31, uint32(r.below(1 << 32))}[r.below(8)])
	}
	return l
}
