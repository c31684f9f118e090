package eval

import (
	"corral/gate"
	"corral/parse"
	"corral/word"
)

// The gates that events are of, by chapter 12's numbers.
const (
	quit = iota
	tell
	ask
)

// The traps.
const (
	outside = 1 // a place that isn't one of the arr's cells
	noValue = 2 // a division by 0, and an operation that is none, as chapter 1 has no result of either
)

// end is what a run's end panics with: whether the program ended by itself, and how.
type end struct {
	itself bool
	trap   int
	code   uint32
}

// runner runs a program.
type runner struct {
	nodes   []parse.Node
	vars    map[string]uint32 // one that wasn't set yet isn't there, and so 0
	cells   map[string][]uint32
	replies []uint32 // those that aren't taken
	fuel    int
	steps   int
	trace   []gate.Event
}

// all does all statements, and answers how the run ended.
func (r *runner) all(body int) (x end) {
	defer func() {
		thrown := recover()
		is, ok := thrown.(end)
		if !ok { // nothing that a program could be at fault for
			panic(thrown)
		}
		x = is
	}()
	r.block(body)
	panic(r.over(0))
}

// block does a block's statements.
func (r *runner) block(at int) {
	for _, x := range r.nodes[at].List {
		r.statement(r.nodes[x])
	}
}

// statement does one.
func (r *runner) statement(n parse.Node) {
	r.step()
	switch n.Kind {
	case parse.Set:
		r.vars[n.Name] = r.number(n.A)
	case parse.Put:
		r.put(n)
	case parse.If:
		r.branch(n)
	case parse.While:
		r.loop(n)
	case parse.Out:
		r.event(tell, r.number(n.A))
	case parse.Exit:
		panic(r.over(r.number(n.A)))
	}
}

// put gives a cell its number; its place is asked for behind the value, which may trap, or tell, as well.
func (r *runner) put(n parse.Node) {
	place := r.number(n.A)
	v := r.number(n.B)
	*r.cell(n.Name, place) = v
}

// branch does the first block or the second one, if there is one.
func (r *runner) branch(n parse.Node) {
	switch {
	case r.number(n.A) != 0:
		r.block(n.B)
	case n.C != none:
		r.block(n.C)
	}
}

// loop does the block as long as it has to be done.
func (r *runner) loop(n parse.Node) {
	for r.goesOn(n.A) {
		r.block(n.B)
	}
}

// goesOn works out a While's expression, which is a step beside those of its nodes.
func (r *runner) goesOn(at int) bool {
	r.step()
	return r.number(at) != 0
}

// number works out the node of an expression. Its step is ahead of those of the nodes that it has.
func (r *runner) number(at int) uint32 {
	r.step()
	n := r.nodes[at]
	switch n.Kind {
	case parse.Num:
		return n.V
	case parse.Var:
		return r.vars[n.Name]
	case parse.Get:
		return *r.cell(n.Name, r.number(n.A))
	case parse.In:
		return r.reply()
	case parse.Neg:
		return 0 - r.number(n.A)
	}
	return r.both(n)
}

// both works out an operation.
func (r *runner) both(n parse.Node) uint32 {
	a := r.number(n.A)
	b := r.number(n.B)
	v, ok := word.Do(int(n.V), a, b)
	if !ok {
		panic(end{itself: true, trap: noValue})
	}
	return v
}

// cell answers an arr's cell at a place.
func (r *runner) cell(name string, place uint32) *uint32 {
	cells := r.cells[name]
	at := word.Sign(place)
	if at < 0 || at >= len(cells) {
		panic(end{itself: true, trap: outside})
	}
	return &cells[at]
}

// reply takes the next one.
func (r *runner) reply() uint32 {
	var v uint32
	if len(r.replies) > 0 {
		v, r.replies = r.replies[0], r.replies[1:]
	}
	r.event(ask, v)
	return v
}

// over tells that all is over with a number, and answers the end of that.
func (r *runner) over(code uint32) end {
	r.event(quit, code)
	return end{itself: true, code: code}
}

// event adds one to the trace.
func (r *runner) event(of int, v uint32) { r.trace = append(r.trace, gate.Event{Gate: of, V: v}) }

// step makes one, if there is fuel for it.
func (r *runner) step() {
	if r.steps == r.fuel {
		panic(end{})
	}
	r.steps++
}
