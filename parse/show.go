package parse

import (
	"strconv"
	"strings"
)

const (
	mostShown = 1000 // nodes
	unknown   = "?"  // what can't be shown
)

// shower shows nodes, word by word.
type shower struct {
	nodes []Node
	left  int             // how many nodes may still be shown
	text  strings.Builder // what is shown; each word has a blank ahead
}

// Show shows a program.
func Show(t Tree) string {
	s := &shower{nodes: t.Nodes, left: mostShown}
	for _, d := range t.Decls {
		s.declaration(d)
	}
	s.node(t.Body, len(t.Nodes), wholeForm)
	return strings.TrimPrefix(s.text.String(), " ")
}

// declaration shows one.
func (s *shower) declaration(d Decl) {
	if d.Size == scalar {
		s.say("var", d.Name, ";")
		return
	}
	s.say("arr", d.Name, "[", strconv.Itoa(d.Size), "]", ";")
}

// node shows the node at a place, which has to be ahead of another one, in a form.
func (s *shower) node(at, behind int, form func(n Node) string) {
	if at < 0 || at >= behind || s.left == 0 {
		s.say(unknown)
		return
	}
	s.left--
	n := s.nodes[at]
	for _, part := range strings.Fields(form(n)) {
		switch part {
		case "A":
			s.node(n.A, at, formOf)
		case "B":
			s.node(n.B, at, formOf)
		case "C":
			s.node(n.C, at, formOf)
		case "N":
			s.say(n.Name)
		case "V":
			s.say(strconv.FormatUint(uint64(n.V), 10))
		case "O":
			s.say(signOf(n.V))
		case "L":
			for _, x := range n.List {
				s.node(x, at, formOf)
			}
		default:
			s.say(part)
		}
	}
}

// say shows words.
func (s *shower) say(words ...string) {
	for _, w := range words {
		s.text.WriteByte(' ')
		s.text.WriteString(w)
	}
}

// wholeForm answers how the node is shown that has all statements: no brackets are around them.
func wholeForm(n Node) string {
	if n.Kind == Block {
		return "L"
	}
	return formOf(n)
}

// formOf answers how a node is shown: words, and in their places A, B and C for the nodes that it has, N for its name, V for its number, O for its operation's sign, L for its list.
func formOf(n Node) string {
	switch n.Kind {
	case Num:
		return "V"
	case Var:
		return "N"
	case Get:
		return "N [ A ]"
	case In:
		return "in"
	case Neg:
		return "( - A )"
	case Bin:
		return "( A O B )"
	case Set:
		return "N = A ;"
	case Put:
		return "N [ A ] = B ;"
	case If:
		if n.C == none {
			return "if A B"
		}
		return "if A B else C"
	case While:
		return "while A B"
	case Out:
		return "out A ;"
	case Exit:
		return "exit A ;"
	case Block:
		return "{ L }"
	}
	return unknown
}

// signOf answers an operation's.
func signOf(op uint32) string {
	for _, x := range signs {
		if x.op == op {
			return x.text
		}
	}
	return unknown
}
