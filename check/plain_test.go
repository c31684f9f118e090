package check

import (
	"fmt"
	"slices"
	"strings"
	"testing"

	"corral/api"
	"corral/parse"
)

// This file has the chapter's words written out once more, without a map, and what the tests make trees of.

// plainVars answers the vars' names by the chapter's words.
func plainVars(t parse.Tree) []string {
	l := []string{}
	for i := len(t.Decls) - 1; i >= 0; i-- {
		if t.Decls[i].Size == -1 {
			l = slices.Insert(l, 0, t.Decls[i].Name)
		}
	}
	return l
}

// plainArrs answers the arrs' declarations by the chapter's words.
func plainArrs(t parse.Tree) []parse.Decl {
	return slices.DeleteFunc(slices.Clone(t.Decls), func(d parse.Decl) bool { return d.Size == -1 })
}

// asked is what a name has to be declared as where a node of these kinds has it: true is a var.
var asked = map[int]bool{2: true, 3: false, 7: true, 8: false}

// plainRight tells why a program isn't right by the chapter's words.
func plainRight(t parse.Tree) api.Errno {
	for i, d := range t.Decls {
		for _, other := range t.Decls[:i] {
			if d.Name == other.Name {
				return 9
			}
		}
	}
	sizes := plainArrs(t)
	if len(plainVars(t)) > 16 || len(sizes) > 4 {
		return 4
	}
	for _, d := range sizes {
		if d.Size <= 0 || d.Size >= 33 {
			return 4
		}
	}
	for _, n := range t.Nodes {
		isVar, has := asked[n.Kind]
		if !has {
			continue
		}
		at := slices.IndexFunc(t.Decls, func(d parse.Decl) bool { return d.Name == n.Name })
		if at < 0 {
			return 10
		}
		if t.Decls[at].Size == -1 != isVar {
			return 11
		}
	}
	return 0
}

// plainRead reads a right program by the chapter's words.
func plainRead(text string) (parse.Tree, int, api.Errno) {
	t, at, e := parse.Read(text)
	if e == 0 {
		e = plainRight(t)
	}
	if e != 0 {
		return parse.Tree{}, at, e
	}
	return t, 0, 0
}

// sameNode tells whether two nodes are alike.
func sameNode(a, b parse.Node) bool {
	return a.Kind == b.Kind && a.A == b.A && a.B == b.B && a.C == b.C && a.Name == b.Name && a.V == b.V && slices.Equal(a.List, b.List)
}

// same tells whether two trees are alike.
func same(a, b parse.Tree) bool {
	return a.Body == b.Body && slices.Equal(a.Decls, b.Decls) && slices.EqualFunc(a.Nodes, b.Nodes, sameNode)
}

// short answers a text's beginning, for what a test tells.
func short(text string) string { return text[:min(len(text), 300)] }

// told answers a tree, for what a test tells.
func told(x parse.Tree) string { return short(fmt.Sprint(x)) }

// checkLists holds what Vars and Arrs answer against the plain way.
func checkLists(t *testing.T, x parse.Tree) {
	t.Helper()
	if l, want := Vars(x), plainVars(x); !slices.Equal(l, want) {
		t.Errorf("Vars(%v) = %q, want %q", told(x), l, want)
	}
	if l, want := Arrs(x), plainArrs(x); !slices.Equal(l, want) {
		t.Errorf("Arrs(%v) = %v, want %v", told(x), l, want)
	}
}

// checkPlain holds what Right, Vars and Arrs answer against the plain way, and answers Right's answer.
func checkPlain(t *testing.T, x parse.Tree) api.Errno {
	t.Helper()
	e := Right(x)
	if want := plainRight(x); e != want {
		t.Errorf("Right(%v) = %d, want %d", told(x), e, want)
	}
	checkLists(t, x)
	return e
}

// checkTree holds what Right answers of a tree against what is written out, and against the plain way.
func checkTree(t *testing.T, x parse.Tree, want api.Errno) {
	t.Helper()
	if e := checkPlain(t, x); e != want {
		t.Errorf("Right(%v) = %d, want %d", told(x), e, want)
	}
}

// checkText holds what Read, and Right of the tree, answer of words that are a program against what is written out, and against the plain way.
func checkText(t *testing.T, text string, want api.Errno) {
	t.Helper()
	x, _, e := parse.Read(text)
	if e != 0 {
		t.Fatalf("%q is no program: %d", short(text), e)
	}
	checkTree(t, x, want)
	checkRead(t, text, 0, want)
}

// checkRead holds what Read answers of a text against a place and an error that are written out; the tree is parse's, or none.
func checkRead(t *testing.T, text string, place int, want api.Errno) {
	t.Helper()
	tree, _, _ := parse.Read(text)
	if want != 0 {
		tree = parse.Tree{}
	}
	if x, at, e := Read(text); e != want || at != place || !same(x, tree) {
		t.Errorf("Read(%q) = %v, %d, %d, want %v, %d, %d", short(text), told(x), at, e, told(tree), place, want)
	}
	checkPlainRead(t, text)
}

// checkPlainRead holds what Read answers against the plain way, and answers the error.
func checkPlainRead(t *testing.T, text string) api.Errno {
	t.Helper()
	x, at, e := Read(text)
	if tree, place, want := plainRead(text); e != want || at != place || !same(x, tree) {
		t.Errorf("Read(%q) = %v, %d, %d, want %v, %d, %d", short(text), told(x), at, e, told(tree), place, want)
	}
	return e
}

// tree answers one of declarations and of nodes, the last one being its Body.
func tree(decls []parse.Decl, nodes ...parse.Node) parse.Tree {
	return parse.Tree{Decls: decls, Nodes: nodes, Body: len(nodes) - 1}
}

// node answers one that has a name, whatever its kind.
func node(kind int, name string) parse.Node {
	return parse.Node{Kind: kind, A: -1, B: -1, C: -1, Name: name}
}

// vr answers a var's declaration.
func vr(name string) parse.Decl { return parse.Decl{Name: name, Size: -1} }

// arr answers an arr's declaration.
func arr(name string, size int) parse.Decl { return parse.Decl{Name: name, Size: size} }

// decls answers a list of declarations.
func decls(l ...parse.Decl) []parse.Decl { return l }

// vars answers n vars' declarations, of names v0, v1, and so on.
func vars(n int) []parse.Decl {
	var l []parse.Decl
	for i := range n {
		l = append(l, vr(fmt.Sprint("v", i)))
	}
	return l
}

// arrs answers arrs' declarations of these sizes, of names a0, a1, and so on.
func arrs(sizes ...int) []parse.Decl {
	var l []parse.Decl
	for i, n := range sizes {
		l = append(l, arr(fmt.Sprint("a", i), n))
	}
	return l
}

// written answers declarations as a text.
func written(lists ...[]parse.Decl) string {
	var b strings.Builder
	for _, d := range slices.Concat(lists...) {
		if d.Size == -1 {
			fmt.Fprintf(&b, "var %s; ", d.Name)
		} else {
			fmt.Fprintf(&b, "arr %s[%d]; ", d.Name, d.Size)
		}
	}
	return b.String()
}

// draws are numbers that follow each other by a rule, so that each run of the tests has the same.
type draws uint32

// below draws one from 0 to below n.
func (r *draws) below(n int) int {
	*r = *r*1664525 + 1013904223
	return int(uint64(*r) * uint64(n) >> 32)
}

// of draws one of a list.
func (r *draws) of(l ...string) string { return l[r.below(len(l))] }

// declarations draws some, up to so many; wrong is how rare it is that one is of a wrong size or name, or an arr too many, 0 for never.
func (r *draws) declarations(most, wrong int) []parse.Decl {
	fault := func() bool { return wrong > 0 && r.below(wrong) == 0 }
	var l []parse.Decl
	left := 4
	for i := range r.below(most + 1) {
		d := vr(fmt.Sprint(r.of("a", "b", "x", "i"), i))
		if r.below(3) == 0 && left > 0 || fault() {
			d.Size = 1 + r.below(32)
			left--
		}
		if fault() {
			d.Size = []int{0, 33, 34, 100, 1000}[r.below(5)]
		}
		if i > 0 && fault() {
			d.Name = l[r.below(i)].Name
		}
		l = append(l, d)
	}
	return l
}

// name draws one that is declared so, as a var or as an arr; wrong is how rare it is that it isn't, 0 for never. There is none where ok is false.
func (r *draws) name(l []parse.Decl, isVar bool, wrong int) (name string, ok bool) {
	if wrong > 0 && r.below(wrong) == 0 {
		isVar = !isVar
		if r.below(2) == 0 {
			return r.of("c", "d0", "ab"), true
		}
	}
	var fit []string
	for _, d := range l {
		if d.Size == -1 == isVar {
			fit = append(fit, d.Name)
		}
	}
	if len(fit) == 0 {
		return "", false
	}
	return r.of(fit...), true
}

// drawnTree draws a tree, whose nodes are of all kinds, with places anywhere.
func drawnTree(r *draws, wrong int) parse.Tree {
	t := parse.Tree{Decls: r.declarations(17, wrong*4), Body: r.below(20) - 5}
	for range r.below(12) {
		kind := r.below(17) - 1
		isVar, has := asked[kind]
		name, ok := r.name(t.Decls, isVar, wrong/4)
		if has && !ok {
			continue
		}
		t.Nodes = append(t.Nodes, parse.Node{Kind: kind, A: r.below(20) - 5, B: r.below(20) - 5, C: r.below(20) - 5, Name: name, V: uint32(r.below(20)), List: make([]int, r.below(3))})
	}
	return t
}

// maker draws a program's words.
type maker struct {
	*draws
	decls []parse.Decl
	wrong int
}

// drawnText draws a program; wrong is how rare it is that a declaration or a name is wrong, 0 for never.
func drawnText(r *draws, wrong int) string {
	m := maker{r, r.declarations(18, wrong*20), wrong * 5}
	return written(m.decls) + m.statements(4, 3)
}

// statements draws some.
func (m *maker) statements(most, size int) string {
	var b strings.Builder
	for range m.below(most + 1) {
		b.WriteString(m.statement(size-1) + " ")
	}
	return b.String()
}

// statement draws one.
func (m *maker) statement(size int) string {
	kind := m.below(7)
	if size <= 0 {
		kind %= 4
	}
	name, ok := m.name(m.decls, kind == 0, m.wrong)
	if kind < 2 && !ok {
		kind = 2
	}
	one := m.expression(2)
	switch kind {
	case 0:
		return name + " = " + one + ";"
	case 1:
		return name + "[" + one + "] = " + m.expression(2) + ";"
	case 2:
		return "out " + one + ";"
	case 3:
		return "exit " + one + ";"
	case 4:
		return "while " + one + " { " + m.statements(2, size) + "}"
	case 5:
		return "if " + one + " { " + m.statements(2, size) + "}"
	}
	return "if " + one + " { " + m.statements(2, size) + "} else { " + m.statements(2, size) + "}"
}

// expression draws one.
func (m *maker) expression(size int) string {
	kind := m.below(7)
	if size <= 0 {
		kind %= 3
	}
	name, ok := m.name(m.decls, kind < 2, m.wrong)
	switch {
	case kind < 2 && ok:
		return name
	case kind == 3:
		return "-" + m.expression(size-1)
	case kind == 4:
		return "(" + m.expression(size-1) + m.of("+", "-", "*", "/", "%", "<", "==") + m.expression(size-1) + ")"
	case kind > 4 && ok:
		return name + "[" + m.expression(size-1) + "]"
	}
	return m.of("in", "0", "7", "4294967295")
}
