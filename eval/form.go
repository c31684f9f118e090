package eval

import "corral/parse"

// none is the place of a node that another one doesn't have.
const none = -1

// role is where a node may stand.
type role int

// The roles; noRole is that of a node of a kind that is none.
const (
	noRole role = iota
	aNumber
	aStatement
	aBlock
)

// formed tells whether each node, Body leading to it or not, stands behind those that it has, and Body is a block's place. No run of such a tree goes round in its nodes, so none is without steps for long.
func formed(t parse.Tree) bool {
	for at, n := range t.Nodes {
		if !stands(n, t.Nodes[:at]) {
			return false
		}
	}
	return all(aBlock, t.Nodes, t.Body)
}

// stands tells whether those that a node has are all among those ahead, each of a kind that may stand there. Fields that its kind doesn't have are asked for nothing.
func stands(n parse.Node, ahead []parse.Node) bool {
	switch n.Kind {
	case parse.Num, parse.Var, parse.In:
		return true
	case parse.Get, parse.Neg, parse.Set, parse.Out, parse.Exit:
		return all(aNumber, ahead, n.A)
	case parse.Bin, parse.Put:
		return all(aNumber, ahead, n.A, n.B)
	case parse.While:
		return all(aNumber, ahead, n.A) && all(aBlock, ahead, n.B)
	case parse.If:
		return all(aNumber, ahead, n.A) && all(aBlock, ahead, n.B) && (n.C == none || all(aBlock, ahead, n.C))
	case parse.Block:
		return all(aStatement, ahead, n.List...)
	}
	return false
}

// all tells whether there is a node of that role at each of these places.
func all(want role, nodes []parse.Node, places ...int) bool {
	for _, at := range places {
		if at < 0 || at >= len(nodes) || roleOf(nodes[at].Kind) != want {
			return false
		}
	}
	return true
}

// roleOf answers where nodes of a kind may stand.
func roleOf(kind int) role {
	switch kind {
	case parse.Num, parse.Var, parse.Get, parse.In, parse.Neg, parse.Bin:
		return aNumber
	case parse.Set, parse.Put, parse.If, parse.While, parse.Out, parse.Exit:
		return aStatement
	case parse.Block:
		return aBlock
	}
	return noRole
}
