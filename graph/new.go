package graph

import (
	"slices"

	"garner/api"
)

// builder lays a graph's states from the last one back to the start, so that where a state leads to is there when it is laid, but for a loop's way back.
type builder struct {
	*Graph
	tree  []api.Node
	takes [][]bool // of each set of the tree
}

// New answers the graph of a tree that rexp.Parse answered. It has at most about twice as many states as the tree's size.
func New(tree []api.Node) *Graph {
	b := builder{Graph: &Graph{cuts: cuts(tree)}, tree: tree}
	for _, n := range tree {
		b.takes = append(b.takes, b.inSet(n.Set))
	}
	last := b.state(api.NodeEmpty)
	b.start = b.lay(len(tree)-1, last)
	return b.Graph
}

// cuts answers where the sets of a tree begin, and where they are over, in order.
func cuts(tree []api.Node) []rune {
	var l []rune
	for _, n := range tree {
		for i := 0; i < len(n.Set); i += 2 {
			l = append(l, n.Set[i], n.Set[i+1]+1)
		}
	}
	slices.Sort(l)
	return slices.Compact(l)
}

// inSet answers which classes of runes lie in a set. A pair begins and is over at a cut, so it has whole classes.
func (b *builder) inSet(pairs []rune) []bool {
	l := make([]bool, len(b.cuts)+1)
	for i := 0; i < len(pairs); i += 2 {
		for class := b.class(pairs[i]); class <= b.class(pairs[i+1]); class++ {
			l[class] = true
		}
	}
	return l
}

// state lays a state and answers its number.
func (b *builder) state(kind int, next ...int) int {
	b.states = append(b.states, state{kind: kind, next: next})
	return len(b.states) - 1
}

// lay lays the states of the node n, behind which goes on in that state, and answers the first of them.
func (b *builder) lay(n, behind int) int {
	node := b.tree[n]
	switch node.Kind {
	case api.NodeSet:
		at := b.state(node.Kind, behind)
		b.states[at].takes = b.takes[n]
		return at
	case api.NodeBegin, api.NodeEnd:
		return b.state(node.Kind, behind)
	case api.NodeSeq:
		for _, kid := range slices.Backward(node.Kids) {
			behind = b.lay(kid, behind)
		}
		return behind
	case api.NodeAlt:
		var next []int
		for _, kid := range node.Kids {
			next = append(next, b.lay(kid, behind))
		}
		return b.state(node.Kind, next...)
	case api.NodeRep:
		return b.repetition(node, behind)
	}
	return behind // of NodeEmpty
}

// repetition lays the states of a repetition: first of the times that there may be, then, ahead of them, of those that must be.
func (b *builder) repetition(node api.Node, behind int) int {
	kid, at := node.Kids[0], behind
	if node.Max < 0 {
		at = b.loop(kid, behind)
	}
	for range node.Max - node.Min {
		at = b.state(api.NodeAlt, b.lay(kid, at), behind)
	}
	for range node.Min {
		at = b.lay(kid, at)
	}
	return at
}

// loop lays the states for any number of times.
func (b *builder) loop(kid, behind int) int {
	at := b.state(api.NodeAlt, behind)
	again := b.lay(kid, at)
	b.states[at].next = append(b.states[at].next, again)
	return at
}
