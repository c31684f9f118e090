package parse

import (
	"fmt"
	"slices"
	"strconv"
	"strings"
	"testing"

	"corral/api"
	"corral/lex"
)

// This file has the chapter's words written out once more: which words can stand where, by a table of what each part is made of, and trees, by splitting words where an operation of the least rank stands.

// grammar is what each part may be made of. Names and numbers stand as "name" and "number"; a . is behind each part of which no more than 100 may be within another.
var grammar = map[string][]string{
	"PROGRAM":    {"var name ; PROGRAM", "arr name [ number ] ; PROGRAM", "STATEMENTS"},
	"STATEMENTS": {"", "STATEMENT STATEMENTS"},
	"STATEMENT":  {"name CELL = EXPRESSION ; .", "if EXPRESSION BLOCK ELSE .", "while EXPRESSION BLOCK .", "out EXPRESSION ; .", "exit EXPRESSION ; ."},
	"CELL":       {"", "[ EXPRESSION ]"},
	"ELSE":       {"", "else BLOCK"},
	"BLOCK":      {"{ STATEMENTS }"},
	"EXPRESSION": {"SUM ."},
	"SUM":        {"SUMS SUMS2"},
	"SUMS2":      {"", "< SUMS", "== SUMS"},
	"SUMS":       {"PRODUCT MORE"},
	"MORE":       {"", "+ PRODUCT MORE", "- PRODUCT MORE"},
	"PRODUCT":    {"VALUE TIMES"},
	"TIMES":      {"", "* VALUE TIMES", "/ VALUE TIMES", "% VALUE TIMES"},
	"VALUE":      {"number .", "name CELL .", "in .", "- VALUE .", "( EXPRESSION ) ."},
}

// want is a part that is to come, and what is to come behind it.
type want struct {
	part   string
	then   *want
	within int // how many parts that count are open here
}

// path is one way in which the words may go on, and how many parts were within another on it.
type path struct {
	next *want
	deep int
}

// expect puts parts ahead of what is to come.
func expect(parts string, then *want) *want {
	l := strings.Fields(parts)
	for _, part := range slices.Backward(l) {
		within := 0
		if then != nil {
			within = then.within
		}
		if part == "." {
			within++
		}
		then = &want{part, then, within}
	}
	return then
}

// opened answers all paths at whose beginning there is a word, or nothing.
func opened(p path) []path {
	if p.next == nil {
		return []path{p}
	}
	p.deep = max(p.deep, p.next.within)
	if p.next.part == "." {
		return opened(path{p.next.then, p.deep})
	}
	alternatives, ok := grammar[p.next.part]
	if !ok {
		return []path{p}
	}
	var l []path
	for _, parts := range alternatives {
		l = append(l, opened(path{expect(parts, p.next.then), p.deep})...)
	}
	return l
}

// plainPlace answers the number of the first word that can't stand there, -1 if words are a program, and then how many parts are within another.
func plainPlace(words []lex.Piece) (int, int) {
	paths := []path{{next: expect("PROGRAM", nil)}}
	for i, p := range words {
		text := p.Text
		switch p.Kind {
		case 'n':
			text = "name"
		case '0':
			text = "number"
		}
		var l []path
		for _, way := range paths {
			for _, x := range opened(way) {
				if x.next != nil && x.next.part == text {
					l = append(l, path{x.next.then, x.deep})
				}
			}
		}
		if len(l) == 0 {
			return i, 0
		}
		paths = l
	}
	for _, way := range paths {
		for _, x := range opened(way) {
			if x.next == nil {
				return -1, x.deep
			}
		}
	}
	return len(words), 0
}

// plain makes a tree of words that are a program.
type plain struct{ t Tree }

// add adds a node.
func (p *plain) add(x Node) int {
	p.t.Nodes = append(p.t.Nodes, x)
	return len(p.t.Nodes) - 1
}

// program makes the tree.
func (p *plain) program(l []lex.Piece) {
	for len(l) > 0 && (l[0].Text == "var" || l[0].Text == "arr") {
		d := Decl{l[1].Text, -1}
		if l[0].Text == "arr" {
			d.Size = int(l[3].V)
		}
		p.t.Decls = append(p.t.Decls, d)
		l = l[index(l, ";")+1:]
	}
	p.t.Body = p.block(l)
}

// index answers where the first word of a text is that no bracket has.
func index(l []lex.Piece, text string) int {
	open := 0
	for i, x := range l {
		if x.Text == text && open == 0 {
			return i
		}
		switch x.Text {
		case "(", "[", "{":
			open++
		case ")", "]", "}":
			open--
		}
	}
	return -1
}

// block makes the node of statements.
func (p *plain) block(l []lex.Piece) int {
	var list []int
	for len(l) > 0 {
		size := index(l, ";") + 1
		if l[0].Text == "if" || l[0].Text == "while" {
			size = blockEnd(l, 0)
			if size < len(l) && l[size].Text == "else" {
				size = blockEnd(l, size)
			}
		}
		list = append(list, p.statement(l[:size]))
		l = l[size:]
	}
	return p.add(Node{13, -1, -1, -1, "", 0, list})
}

// blockEnd answers where the first block behind a place ends.
func blockEnd(l []lex.Piece, from int) int {
	begin := from + index(l[from:], "{")
	return begin + 1 + index(l[begin+1:], "}") + 1
}

// inBlock answers the words in the first block's brackets.
func inBlock(l []lex.Piece) []lex.Piece { return l[index(l, "{")+1 : blockEnd(l, 0)-1] }

// statement makes one's node.
func (p *plain) statement(l []lex.Piece) int {
	switch l[0].Text {
	case "out":
		return p.add(Node{11, p.expression(l[1 : len(l)-1]), -1, -1, "", 0, nil})
	case "exit":
		return p.add(Node{12, p.expression(l[1 : len(l)-1]), -1, -1, "", 0, nil})
	case "while":
		a := p.expression(l[1:index(l, "{")])
		b := p.block(inBlock(l))
		return p.add(Node{10, a, b, -1, "", 0, nil})
	case "if":
		a := p.expression(l[1:index(l, "{")])
		b := p.block(inBlock(l))
		c := -1
		if rest := l[blockEnd(l, 0):]; len(rest) > 0 {
			c = p.block(inBlock(rest))
		}
		return p.add(Node{9, a, b, c, "", 0, nil})
	}
	at := index(l, "=")
	if at == 1 {
		return p.add(Node{7, p.expression(l[2 : len(l)-1]), -1, -1, l[0].Text, 0, nil})
	}
	a := p.expression(l[2 : at-1])
	b := p.expression(l[at+1 : len(l)-1])
	return p.add(Node{8, a, b, -1, l[0].Text, 0, nil})
}

// split answers the last place outside of brackets where one of these signs is between two values.
func split(l []lex.Piece, signs ...string) int {
	open, at := 0, -1
	for i, x := range l {
		switch x.Text {
		case "(", "[":
			open++
		case ")", "]":
			open--
		}
		if i > 0 && open == 0 && slices.Contains(signs, x.Text) && endsValue(l[i-1]) {
			at = i
		}
	}
	return at
}

// endsValue tells whether a value may end with a word.
func endsValue(x lex.Piece) bool {
	return x.Kind == 'n' || x.Kind == '0' || x.Text == "in" || x.Text == ")" || x.Text == "]"
}

// opOf are the numbers of the operations, by their signs.
var opOf = map[string]uint32{"+": 3, "-": 4, "*": 5, "/": 6, "%": 7, "<": 13, "==": 14}

// expression makes one's node.
func (p *plain) expression(l []lex.Piece) int {
	for _, signs := range [][]string{{"<", "=="}, {"+", "-"}, {"*", "/", "%"}} {
		if at := split(l, signs...); at >= 0 {
			a := p.expression(l[:at])
			b := p.expression(l[at+1:])
			return p.add(Node{6, a, b, -1, "", opOf[l[at].Text], nil})
		}
	}
	switch {
	case l[0].Text == "(":
		return p.expression(l[1 : len(l)-1])
	case l[0].Text == "-":
		return p.add(Node{5, p.expression(l[1:]), -1, -1, "", 0, nil})
	case l[0].Text == "in":
		return p.add(Node{4, -1, -1, -1, "", 0, nil})
	case l[0].Kind == '0':
		return p.add(Node{1, -1, -1, -1, "", l[0].V, nil})
	case len(l) > 1:
		return p.add(Node{3, p.expression(l[2 : len(l)-1]), -1, -1, l[0].Text, 0, nil})
	}
	return p.add(Node{2, -1, -1, -1, l[0].Text, 0, nil})
}

// plainRead reads a program by the chapter's words.
func plainRead(text string) (Tree, int, api.Errno) {
	words, at, e := lex.Read(text)
	if e != 0 {
		return Tree{}, at, e
	}
	at, deep := plainPlace(words)
	if at >= 0 {
		return Tree{}, at, 2
	}
	var p plain
	p.program(words)
	great := slices.ContainsFunc(p.t.Decls, func(d Decl) bool { return d.Size > 1000 })
	if great || deep > 100 || len(p.t.Nodes) > 1000 {
		return Tree{}, 0, 4
	}
	return p.t, 0, 0
}

// plainWords are the words of what is shown.
type plainWords struct {
	t     Tree
	l     []string
	shown int // nodes
}

// say adds words.
func (p *plainWords) say(words ...string) { p.l = append(p.l, words...) }

// show adds a node's words, if its place is ahead of another one's.
func (p *plainWords) show(at, behind int) {
	if at < 0 || at >= behind || p.shown >= 1000 {
		p.say("?")
		return
	}
	p.shown++
	x := p.t.Nodes[at]
	switch {
	case x.Kind <= 6:
		p.value(at, x)
	case x.Kind == 13:
		p.say("{")
		p.list(at, x.List)
		p.say("}")
	default:
		p.statement(at, x)
	}
}

// list adds the words of the nodes that a block has.
func (p *plainWords) list(at int, l []int) {
	for _, place := range l {
		p.show(place, at)
	}
}

// value adds the words of a node of an expression.
func (p *plainWords) value(at int, x Node) {
	switch x.Kind {
	case 1:
		p.say(strconv.Itoa(int(x.V)))
	case 2:
		p.say(x.Name)
	case 3:
		p.say(x.Name, "[")
		p.show(x.A, at)
		p.say("]")
	case 4:
		p.say("in")
	case 5:
		p.say("(", "-")
		p.show(x.A, at)
		p.say(")")
	case 6:
		p.say("(")
		p.show(x.A, at)
		p.say(plainSign(x.V))
		p.show(x.B, at)
		p.say(")")
	default:
		p.say("?")
	}
}

// statement adds the words of a node of a statement.
func (p *plainWords) statement(at int, x Node) {
	switch x.Kind {
	case 7:
		p.say(x.Name, "=")
		p.show(x.A, at)
		p.say(";")
	case 8:
		p.say(x.Name, "[")
		p.show(x.A, at)
		p.say("]", "=")
		p.show(x.B, at)
		p.say(";")
	case 9, 10:
		p.say([]string{"if", "while"}[x.Kind-9])
		p.show(x.A, at)
		p.show(x.B, at)
		if x.Kind == 9 && x.C != -1 {
			p.say("else")
			p.show(x.C, at)
		}
	case 11, 12:
		p.say([]string{"out", "exit"}[x.Kind-11])
		p.show(x.A, at)
		p.say(";")
	default:
		p.say("?")
	}
}

// plainShow shows a program by the chapter's words.
func plainShow(t Tree) string {
	p := plainWords{t: t}
	for _, d := range t.Decls {
		if d.Size == -1 {
			p.say("var", d.Name, ";")
		} else {
			p.say("arr", d.Name, "[", strconv.Itoa(d.Size), "]", ";")
		}
	}
	if t.Body >= 0 && t.Body < len(t.Nodes) && t.Nodes[t.Body].Kind == 13 {
		p.shown = 1
		p.list(t.Body, t.Nodes[t.Body].List)
	} else {
		p.show(t.Body, len(t.Nodes))
	}
	return strings.Join(p.l, " ")
}

// plainSign answers an operation's sign.
func plainSign(op uint32) string {
	for sign, x := range opOf {
		if x == op {
			return sign
		}
	}
	return "?"
}

// sameNode tells whether two nodes are alike.
func sameNode(a, b Node) bool {
	return a.Kind == b.Kind && a.A == b.A && a.B == b.B && a.C == b.C && a.Name == b.Name && a.V == b.V && slices.Equal(a.List, b.List)
}

// same tells whether two trees are alike.
func same(a, b Tree) bool {
	return a.Body == b.Body && slices.Equal(a.Decls, b.Decls) && slices.EqualFunc(a.Nodes, b.Nodes, sameNode)
}

// short answers a text's beginning, for what a test tells.
func short(text string) string { return text[:min(len(text), 200)] }

// told answers a tree, for what a test tells.
func told(x Tree) string { return short(fmt.Sprint(x)) }

// checkPlain holds what Read and Show answer against the plain way.
func checkPlain(t *testing.T, text string) {
	t.Helper()
	x, at, e := Read(text)
	wanted, place, fault := plainRead(text)
	if e != fault || at != place || !same(x, wanted) {
		t.Errorf("Read(%q) = %v, %d, %d, want %v, %d, %d", short(text), told(x), at, e, told(wanted), place, fault)
	}
	checkShown(t, x)
}

// checkShown holds what Show answers against the plain way.
func checkShown(t *testing.T, x Tree) {
	t.Helper()
	if shown, wanted := Show(x), plainShow(x); shown != wanted {
		t.Errorf("Show(%s) = %q, want %q", told(x), short(shown), short(wanted))
	}
}

// checkRead holds that a text is read as a tree, which is written out: its declarations, its nodes, the last one of which is the block of all statements.
func checkRead(t *testing.T, text string, decls []Decl, nodes ...Node) {
	t.Helper()
	wanted := Tree{decls, nodes, len(nodes) - 1}
	if x, at, e := Read(text); e != 0 || at != 0 || !same(x, wanted) {
		t.Errorf("Read(%q) = %v, %d, %d, want %v", short(text), told(x), at, e, told(wanted))
	}
	checkPlain(t, text)
}

// checkFault holds that a text isn't read, as at a place, which is written out, a word can't stand, or none begins.
func checkFault(t *testing.T, text string, place int) {
	t.Helper()
	if x, at, e := Read(text); e != api.ErrForm || at != place || !same(x, Tree{}) {
		t.Errorf("Read(%q) = %v, %d, %d, want the fault at %d", short(text), told(x), at, e, place)
	}
	checkPlain(t, text)
}

// checkGreat holds that a text isn't read, as something is beyond its limit.
func checkGreat(t *testing.T, text string) {
	t.Helper()
	if x, at, e := Read(text); e != api.ErrSize || at != 0 || !same(x, Tree{}) {
		t.Errorf("Read(%q) = %v, %d, %d, want ErrSize", short(text), told(x), at, e)
	}
	checkPlain(t, text)
}

// checkFits holds that a text is read, as nothing is beyond its limit, and answers the tree.
func checkFits(t *testing.T, text string) Tree {
	t.Helper()
	x, at, e := Read(text)
	if e != 0 || at != 0 {
		t.Errorf("Read(%q) = %d, %d", short(text), at, e)
	}
	checkPlain(t, text)
	return x
}

// The nodes, by their kinds.
func num(v uint32) Node              { return Node{Kind: 1, A: -1, B: -1, C: -1, V: v} }
func vr(name string) Node            { return Node{Kind: 2, A: -1, B: -1, C: -1, Name: name} }
func get(name string, a int) Node    { return Node{Kind: 3, A: a, B: -1, C: -1, Name: name} }
func in() Node                       { return Node{Kind: 4, A: -1, B: -1, C: -1} }
func neg(a int) Node                 { return Node{Kind: 5, A: a, B: -1, C: -1} }
func bin(op uint32, a, b int) Node   { return Node{Kind: 6, A: a, B: b, C: -1, V: op} }
func set(name string, a int) Node    { return Node{Kind: 7, A: a, B: -1, C: -1, Name: name} }
func put(name string, a, b int) Node { return Node{Kind: 8, A: a, B: b, C: -1, Name: name} }
func branch(a, b, c int) Node        { return Node{Kind: 9, A: a, B: b, C: c} }
func loop(a, b int) Node             { return Node{Kind: 10, A: a, B: b, C: -1} }
func out(a int) Node                 { return Node{Kind: 11, A: a, B: -1, C: -1} }
func exit(a int) Node                { return Node{Kind: 12, A: a, B: -1, C: -1} }
func block(l ...int) Node            { return Node{Kind: 13, A: -1, B: -1, C: -1, List: l} }

// draws are numbers that follow each other by a rule, so that each run of the tests has the same.
type draws uint32

// below draws one from 0 to below n.
func (r *draws) below(n int) int {
	*r = *r*1664525 + 1013904223
	return int(uint64(*r) * uint64(n) >> 32)
}

// name draws a name.
func (r *draws) name() string {
	return []string{"a", "b", "x1", "i", "abcdefgh", "ifs", "o", "z9999999", "vars"}[r.below(9)]
}

// number draws a number.
func (r *draws) number() uint32 {
	return uint32(r.below(1<<32)) >> r.below(32)
}

// maker draws a program: its words, and its tree, node by node in the order in which the words have them.
type maker struct {
	draws
	t Tree
}

// add adds a node.
func (m *maker) add(x Node) int {
	m.t.Nodes = append(m.t.Nodes, x)
	return len(m.t.Nodes) - 1
}

// words joins words.
func words(l ...string) string { return strings.Join(l, " ") }

// expression draws one that may stand where operations of a rank, or of a greater one, may: 0 where any may, 3 where values alone may.
func (m *maker) expression(rank, size int) (string, int) {
	own := m.below(4)
	if size <= 0 {
		own = 3
	}
	if own < rank || m.below(8) == 0 { // needed, or not
		text, at := m.expression(0, size-1)
		return words("(", text, ")"), at
	}
	if own == 3 {
		return m.value(size)
	}
	signs := [][]string{{"<", "=="}, {"+", "-"}, {"*", "/", "%"}}[own]
	sign := signs[m.below(len(signs))]
	one, a := m.expression(max(own, 1), size-1)
	two, b := m.expression(own+1, size-1)
	return words(one, sign, two), m.add(bin(opOf[sign], a, b))
}

// value draws one without brackets around.
func (m *maker) value(size int) (string, int) {
	kind := m.below(5)
	if size <= 0 {
		kind %= 3
	}
	switch kind {
	case 0:
		v := m.number()
		return strconv.Itoa(int(v)), m.add(num(v))
	case 1:
		name := m.name()
		return name, m.add(vr(name))
	case 2:
		return "in", m.add(in())
	case 3:
		text, a := m.expression(3, size-1)
		return words("-", text), m.add(neg(a))
	}
	name := m.name()
	text, a := m.expression(0, size-1)
	return words(name, "[", text, "]"), m.add(get(name, a))
}

// statements draws some, and their block.
func (m *maker) statements(most, size int) (string, int) {
	var texts []string
	var list []int
	for range m.below(most + 1) {
		text, at := m.statement(size - 1)
		texts, list = append(texts, text), append(list, at)
	}
	return strings.Join(texts, " "), m.add(block(list...))
}

// statement draws one.
func (m *maker) statement(size int) (string, int) {
	kind := m.below(7)
	if size <= 0 {
		kind %= 4
	}
	name := m.name()
	one, a := m.expression(0, size)
	switch kind {
	case 0:
		return words(name, "=", one, ";"), m.add(set(name, a))
	case 1:
		two, b := m.expression(0, size)
		return words(name, "[", one, "]", "=", two, ";"), m.add(put(name, a, b))
	case 2:
		return words("out", one, ";"), m.add(out(a))
	case 3:
		return words("exit", one, ";"), m.add(exit(a))
	}
	two, b := m.statements(3, size)
	switch kind {
	case 4:
		return words("while", one, "{", two, "}"), m.add(loop(a, b))
	case 5:
		return words("if", one, "{", two, "}"), m.add(branch(a, b, -1))
	}
	three, c := m.statements(3, size)
	return words("if", one, "{", two, "}", "else", "{", three, "}"), m.add(branch(a, b, c))
}

// program draws one, with up to so many statements, which have up to so many parts one within another.
func (m *maker) program(most, size int) string {
	var texts []string
	for range m.below(4) {
		d := Decl{m.name(), -1}
		text := words("var", d.Name, ";")
		if m.below(2) == 0 {
			d.Size = m.below(1001)
			text = words("arr", d.Name, "[", strconv.Itoa(d.Size), "]", ";")
		}
		texts, m.t.Decls = append(texts, text), append(m.t.Decls, d)
	}
	text, at := m.statements(most, size)
	m.t.Body = at
	return strings.Join(append(texts, text), " ")
}

// drawn draws a program of which the text isn't too long: its words, and its tree.
func drawn(r *draws) (string, Tree) {
	for {
		m := maker{draws: *r}
		text := m.program(5, 4)
		*r = m.draws
		if len(plainShow(m.t)) <= 4000 && len(text) <= 4000 {
			return text, m.t
		}
	}
}

// spaced draws other blanks between words, none where two words don't make another one.
func spaced(r *draws, text string) string {
	var b strings.Builder
	ahead := byte(' ')
	for _, x := range strings.Fields(text) {
		joins := ahead == '=' && x[0] == '=' || letter(ahead) && letter(x[0])
		if joins || r.below(3) == 0 {
			b.WriteString([]string{" ", "\n", "  ", " \n "}[r.below(4)])
		}
		b.WriteString(x)
		ahead = x[len(x)-1]
	}
	return b.String()
}

// letter tells whether a byte is a letter or a digit.
func letter(c byte) bool { return c >= 'a' && c <= 'z' || c >= '0' && c <= '9' }
