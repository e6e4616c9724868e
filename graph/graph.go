// Package graph stands beside the layers: a pattern's tree as states, and how the runes of a text lead from state to state. Those layers that take texts through a pattern use it.
package graph

import (
	"sort"

	"garner/api"
)

const final = 0 // the number of the last state, which is laid ahead of all others

// Graph is a pattern as states. It is never written to once it is made.
type Graph struct {
	states []state
	start  int
	cuts   []rune // where one class of runes ends and the next one begins
}

// state is what is still to be matched of a pattern.
type state struct {
	kind  int    // of the node that leads on from it; the last state's is NodeEmpty
	takes []bool // of a NodeSet: which classes of runes lie in it
	next  []int
}

// Place is what a pattern may ask of a place of a text.
type Place struct {
	First, Last bool // whether it is the text's beginning, its end
}

// Start adds the state in which nothing is matched yet.
func (g *Graph) Start(s *Set) {
	s.add(g.start)
}

// Spread adds the states to which those in s lead without a rune at that place, and tells whether all is matched in one of them.
func (g *Graph) Spread(s *Set, at Place) bool {
	for i := 0; i < len(s.list); i++ { // what is added is gone through too
		from := &g.states[s.list[i]]
		if from.free(at) {
			s.add(from.next...)
		}
	}
	return s.has[final]
}

// free tells whether a state may be left without a rune at that place.
func (s *state) free(at Place) bool {
	switch s.kind {
	case api.NodeAlt:
		return true
	case api.NodeBegin:
		return at.First
	case api.NodeEnd:
		return at.Last
	}
	return false
}

// Step makes to the states to which the rune r leads from those in from.
func (g *Graph) Step(from, to *Set, r rune) {
	to.clear()
	class := g.class(r)
	for _, i := range from.list {
		if s := &g.states[i]; s.kind == api.NodeSet && s.takes[class] {
			to.add(s.next...)
		}
	}
}

// class answers the number of the class of r: runes between two cuts lie in the same sets.
func (g *Graph) class(r rune) int {
	return sort.Search(len(g.cuts), func(i int) bool { return g.cuts[i] > r })
}
