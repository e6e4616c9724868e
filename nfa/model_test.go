package nfa_test

import (
	"math/bits"
	"testing"

	"garner/api"
	"garner/nfa"
	"garner/rexp"
)

// The model: the chapter's table. Places of a text of at most 63 runes are bits of a number.

// model is a tree and a text.
type model struct {
	tree []api.Node
	text []rune
}

// each answers the places that how answers for each of these places, together.
func each(places uint64, how func(i int) uint64) uint64 {
	var l uint64
	for ; places != 0; places &= places - 1 {
		l |= how(bits.TrailingZeros64(places))
	}
	return l
}

// to answers all places to which the node n matches from one of these.
func (m model) to(n int, places uint64) uint64 {
	return each(places, func(i int) uint64 { return m.from(n, i) })
}

// from answers all places to which the node n matches from i.
func (m model) from(n, i int) uint64 {
	node, here := m.tree[n], uint64(1)<<i
	switch node.Kind {
	case api.NodeEmpty:
		return here
	case api.NodeSet:
		if i < len(m.text) && lies(m.text[i], node.Set) {
			return here << 1
		}
		return 0
	case api.NodeSeq:
		for _, kid := range node.Kids {
			here = m.to(kid, here)
		}
		return here
	case api.NodeAlt:
		var l uint64
		for _, kid := range node.Kids {
			l |= m.to(kid, here)
		}
		return l
	case api.NodeRep:
		return m.often(node, here)
	case api.NodeBegin:
		if i == 0 {
			return here
		}
		return 0
	case api.NodeEnd:
		if i == len(m.text) {
			return here
		}
		return 0
	}
	panic("a node of no kind")
}

// often answers the places to which the kid matches n times, for an n from Min to Max.
func (m model) often(node api.Node, here uint64) uint64 {
	for range node.Min {
		here = m.to(node.Kids[0], here)
	}
	l := here
	if node.Max >= 0 {
		for n := node.Min; n < node.Max; n++ {
			here = m.to(node.Kids[0], here)
			l |= here
		}
		return l
	}
	for more := m.to(node.Kids[0], l); more&^l != 0; more = m.to(node.Kids[0], l) {
		l |= more
	}
	return l
}

// lies tells whether a rune lies in one of these pairs.
func lies(r rune, pairs []rune) bool {
	for i := 0; i < len(pairs); i += 2 {
		if pairs[i] <= r && r <= pairs[i+1] {
			return true
		}
	}
	return false
}

// whole tells whether the root matches from the beginning to the end.
func (m model) whole() bool {
	return m.to(len(m.tree)-1, 1)>>len(m.text) != 0
}

// part tells whether the root matches from some place to some place.
func (m model) part() bool {
	return m.to(len(m.tree)-1, 1<<(len(m.text)+1)-1) != 0
}

// held is a matcher with the tree of its pattern.
type held struct {
	pattern string
	tree    []api.Node
	*nfa.Matcher
}

// hold answers a matcher of that pattern with its tree, if New answers what rexp.Parse does.
func hold(t *testing.T, pattern string) (held, api.Errno) {
	t.Helper()
	tree, want := rexp.Parse(pattern)
	m, e := nfa.New(pattern)
	if e != want || (m == nil) != (e != api.OK) {
		t.Fatalf("New(%q): %v, %d; not error %d", pattern, m, e, want)
	}
	return held{pattern, tree, m}, e
}

// check holds Whole and Part of a text against the model.
func (h held) check(t *testing.T, s string) (whole, part bool) {
	t.Helper()
	m := model{h.tree, []rune(s)}
	whole, part = m.whole(), m.part()
	h.is(t, s, whole, part)
	return whole, part
}

// is holds Whole and Part of a text against what they should be.
func (h held) is(t *testing.T, s string, whole, part bool) {
	t.Helper()
	if w, p := h.Whole(s), h.Part(s); w != whole || p != part {
		t.Errorf("%q, %.60q: %v, %v; not %v, %v", h.pattern, s, w, p, whole, part)
	}
}

// rows answers all rows of up to most of these pieces.
func rows(most int, pieces ...string) []string {
	l := []string{""}
	for from := 0; most > 0; most-- {
		behind := len(l)
		for _, s := range l[from:behind] {
			for _, p := range pieces {
				l = append(l, s+p)
			}
		}
		from = behind
	}
	return l
}

// TestModel holds the model itself against matches that the chapter's table tells by hand.
func TestModel(t *testing.T) {
	t.Parallel()
	for _, r := range matches {
		tree, e := rexp.Parse(r.pattern)
		m := model{tree, []rune(r.text)}
		if e != api.OK || m.whole() != r.whole || m.part() != r.part {
			t.Errorf("%q, %q: %d, %v, %v", r.pattern, r.text, e, m.whole(), m.part())
		}
	}
}
