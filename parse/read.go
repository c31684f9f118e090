package parse

import (
	"corral/api"
	"corral/lex"
)

// The kinds of words that are told by their kind; those of the others are told by their text.
const (
	aName   = 'n'
	aNumber = '0'
)

// The limits of what is read.
const (
	mostNodes = 1000
	mostCells = 1000 // of an arr
	mostDeep  = 100  // expressions, values and statements, one within another
)

// reader makes a tree of words.
type reader struct {
	words []lex.Piece
	at    int // the number of the word that comes next
	tree  Tree
	deep  int  // how many expressions, values and statements are being read, one within another
	great bool // whether something was beyond its limit; what is behind is read nevertheless, as ErrForm is ahead of ErrSize
}

// misfit is what a word that can't stand there panics with: its number.
type misfit int

// Read reads a program.
func Read(s string) (Tree, int, api.Errno) {
	words, at, e := lex.Read(s)
	if e != api.OK {
		return Tree{}, at, e
	}
	r := &reader{words: words}
	if at, ok := r.all(); !ok {
		return Tree{}, at, api.ErrForm
	}
	if r.great || len(r.tree.Nodes) > mostNodes {
		return Tree{}, 0, api.ErrSize
	}
	return r.tree, 0, api.OK
}

// all reads all words, and tells whether they are a program; if they aren't, which word can't stand there.
func (r *reader) all() (at int, ok bool) {
	defer func() {
		switch x := recover().(type) {
		case nil:
		case misfit:
			at, ok = int(x), false
		default: // nothing that a text could be at fault for
			panic(x)
		}
	}()
	r.program()
	return 0, true
}

// program reads declarations, then statements.
func (r *reader) program() {
	for {
		switch {
		case r.take("var"):
			r.declare(func() int { return scalar })
		case r.take("arr"):
			r.declare(r.cells)
		default:
			r.tree.Body = r.statements(func() bool { return r.at == len(r.words) })
			return
		}
	}
}

// declare reads what is behind a declaration's first word: a name, what tells its size, and the end.
func (r *reader) declare(size func() int) {
	d := Decl{Name: r.kind(aName).Text}
	d.Size = size()
	r.must(";")
	r.tree.Decls = append(r.tree.Decls, d)
}

// cells reads how many an arr has.
func (r *reader) cells() int {
	r.must("[")
	n := r.kind(aNumber).V
	r.must("]")
	r.great = r.great || n > mostCells
	return int(n)
}

// statements reads statements up to where they are over, and answers their block.
func (r *reader) statements(over func() bool) int {
	n := node(Block)
	for !over() {
		n.List = append(n.List, r.within(r.statement))
	}
	return r.add(n)
}

// block reads statements in their brackets.
func (r *reader) block() int {
	r.must("{")
	return r.statements(func() bool { return r.take("}") })
}

// statement reads one, and answers its node, as all that read a part of it do.
func (r *reader) statement() int {
	switch {
	case r.take("if"):
		return r.branch()
	case r.take("while"):
		return r.loop()
	case r.take("out"):
		return r.tell(Out)
	case r.take("exit"):
		return r.tell(Exit)
	}
	return r.change()
}

// branch reads what is behind the word if.
func (r *reader) branch() int {
	n := node(If)
	n.A = r.within(r.expression)
	n.B = r.block()
	if r.take("else") {
		n.C = r.block()
	}
	return r.add(n)
}

// loop reads what is behind the word while.
func (r *reader) loop() int {
	n := node(While)
	n.A = r.within(r.expression)
	n.B = r.block()
	return r.add(n)
}

// tell reads what is behind the words out and exit.
func (r *reader) tell(kind int) int {
	n := node(kind)
	n.A = r.within(r.expression)
	r.must(";")
	return r.add(n)
}

// change reads a statement that begins with a name.
func (r *reader) change() int {
	n := node(Set)
	n.Name = r.kind(aName).Text
	if r.take("[") {
		n.Kind = Put
		n.A = r.place()
		n.B = r.given()
		return r.add(n)
	}
	n.A = r.given()
	return r.add(n)
}

// given reads what a var or a cell is given, from the = on.
func (r *reader) given() int {
	r.must("=")
	at := r.within(r.expression)
	r.must(";")
	return at
}

// place reads what is behind the [ of a cell.
func (r *reader) place() int {
	at := r.within(r.expression)
	r.must("]")
	return at
}

// expression reads a sum, or two of them that are compared.
func (r *reader) expression() int {
	a := r.sum()
	op, ok := r.operation(sums)
	if !ok {
		return a
	}
	b := r.sum()
	return r.both(op, a, b)
}

// sum reads products, from the left.
func (r *reader) sum() int { return r.chain(r.product, products) }

// product reads values, from the left.
func (r *reader) product() int {
	return r.chain(func() int { return r.within(r.value) }, values)
}

// chain reads parts with operations between, from the left.
func (r *reader) chain(part func() int, between int) int {
	a := part()
	for {
		op, ok := r.operation(between)
		if !ok {
			return a
		}
		b := part()
		a = r.both(op, a, b)
	}
}

// operation takes the next word, if it is the sign of an operation that stands between such parts.
func (r *reader) operation(between int) (uint32, bool) {
	for _, x := range signs {
		if x.between == between && r.take(x.text) {
			return x.op, true
		}
	}
	return 0, false
}

// value reads one.
func (r *reader) value() int {
	switch {
	case r.take("in"):
		return r.add(node(In))
	case r.take("-"):
		n := node(Neg)
		n.A = r.within(r.value)
		return r.add(n)
	case r.take("("):
		at := r.within(r.expression)
		r.must(")")
		return at
	case r.next().Kind == aName:
		return r.named()
	}
	n := node(Num)
	n.V = r.kind(aNumber).V
	return r.add(n)
}

// named reads a value that begins with a name.
func (r *reader) named() int {
	n := node(Var)
	n.Name = r.kind(aName).Text
	if r.take("[") {
		n.Kind = Get
		n.A = r.place()
	}
	return r.add(n)
}

// both adds the node of an operation.
func (r *reader) both(op uint32, a, b int) int {
	n := node(Bin)
	n.V, n.A, n.B = op, a, b
	return r.add(n)
}

// within reads an expression, a value or a statement, which is within those that are being read.
func (r *reader) within(part func() int) int {
	r.deep++
	r.great = r.great || r.deep > mostDeep
	at := part()
	r.deep--
	return at
}

// add adds a node behind all that there are, and answers its place.
func (r *reader) add(n Node) int {
	r.tree.Nodes = append(r.tree.Nodes, n)
	return len(r.tree.Nodes) - 1
}

// next answers the word that comes next; behind the last one, one of no kind and without a text.
func (r *reader) next() lex.Piece {
	if r.at == len(r.words) {
		return lex.Piece{}
	}
	return r.words[r.at]
}

// take takes the next word, if it is a key or a sign of that text, and tells whether it is.
func (r *reader) take(text string) bool {
	if r.next().Text != text {
		return false
	}
	r.at++
	return true
}

// must takes the next word, which has to be a key or a sign of that text.
func (r *reader) must(text string) {
	if !r.take(text) {
		panic(misfit(r.at))
	}
}

// kind takes the next word, which has to be of that kind.
func (r *reader) kind(kind byte) lex.Piece {
	p := r.next()
	if p.Kind != kind {
		panic(misfit(r.at))
	}
	r.at++
	return p
}

// node answers a node that has no others.
func node(kind int) Node { return Node{Kind: kind, A: none, B: none, C: none} }
