package rexp_test

import (
	"fmt"
	"slices"
	"strings"
	"testing"
	"unicode/utf8"

	"garner/api"
	"garner/rexp"
)

// The model: the chapter's words. A part of a pattern is something, if there is a way to take it so; all ways are told.

// part is a node with its kids, and how many parentheses are open in it at one place, at most.
type part struct {
	api.Node
	kids []part
	deep int
}

// place is a kind of part from a place to a place.
type place struct {
	kind   string
	from   int
	behind int
}

// model tells of the runes of a text what they are.
type model struct {
	s     []rune
	marks []rune
	told  map[place][]part
}

// tell answers what how answers, once for each place.
func (m *model) tell(kind string, from, behind int, how func() []part) []part {
	p := place{kind, from, behind}
	if l, ok := m.told[p]; ok {
		return l
	}
	l := how()
	m.told[p] = l
	return l
}

// alternatives answers all ways in which the runes are an alternative: rows with | between them.
func (m *model) alternatives(from, behind int) []part {
	return m.tell("alternative", from, behind, func() []part {
		return joined(m.rows(from, behind), api.NodeAlt)
	})
}

// rows answers all ways in which the runes are rows with | between them, as kids of a part of no kind.
func (m *model) rows(from, behind int) []part {
	return m.tell("rows", from, behind, func() []part {
		l := pairs(joined(m.items(from, behind), api.NodeSeq), []part{{}})
		for i := from; i < behind; i++ {
			if m.s[i] == '|' {
				l = append(l, pairs(joined(m.items(from, i), api.NodeSeq), m.rows(i+1, behind))...)
			}
		}
		return l
	})
}

// items answers all ways in which the runes are items, one behind the other, as kids of a part of no kind.
func (m *model) items(from, behind int) []part {
	return m.tell("items", from, behind, func() []part {
		if from == behind {
			return []part{{}}
		}
		var l []part
		for i := from + 1; i <= behind; i++ {
			if one := m.item(from, i); len(one) > 0 {
				l = append(l, pairs(one, m.items(i, behind))...)
			}
		}
		return l
	})
}

// pairs answers each of the first ahead of the kids of each of the others.
func pairs(first, others []part) []part {
	var l []part
	for _, f := range first {
		for _, o := range others {
			l = append(l, part{kids: append([]part{f}, o.kids...), deep: max(f.deep, o.deep)})
		}
	}
	return l
}

// joined answers the kids of each part as a node of that kind, those of one kid as it.
func joined(l []part, kind int) []part {
	var nodes []part
	for _, p := range l {
		switch len(p.kids) {
		case 0:
			nodes = append(nodes, part{Node: api.Node{Kind: api.NodeEmpty}})
		case 1:
			nodes = append(nodes, p.kids[0])
		default:
			nodes = append(nodes, part{Node: api.Node{Kind: kind}, kids: p.kids, deep: p.deep})
		}
	}
	return nodes
}

// repetitions are the texts that stand behind an atom, with how often.
func repetitions() map[string][2]int {
	l := map[string][2]int{"*": {0, -1}, "+": {1, -1}, "?": {0, 1}}
	for m := 0; m <= 8; m++ {
		l[fmt.Sprintf("{%d}", m)] = [2]int{m, m}
		for n := m; n <= 8; n++ {
			l[fmt.Sprintf("{%d,%d}", m, n)] = [2]int{m, n}
		}
	}
	return l
}

var behindAtoms = repetitions()

// item answers all ways in which the runes are an atom, perhaps with a repetition.
func (m *model) item(from, behind int) []part {
	return m.tell("item", from, behind, func() []part {
		l := m.atom(from, behind)
		for i := max(from+1, behind-5); i < behind; i++ {
			if t, ok := behindAtoms[string(m.s[i:behind])]; ok {
				for _, a := range m.atom(from, i) {
					l = append(l, part{api.Node{Kind: api.NodeRep, Min: t[0], Max: t[1]}, []part{a}, a.deep})
				}
			}
		}
		return l
	})
}

// atom answers all ways in which the runes are an atom.
func (m *model) atom(from, behind int) []part {
	return m.tell("atom", from, behind, func() []part {
		s := m.s[from:behind]
		var l []part
		if len(s) >= 2 && s[0] == '(' && s[len(s)-1] == ')' {
			for _, a := range m.alternatives(from+1, behind-1) {
				a.deep++
				l = append(l, a)
			}
		}
		if len(s) >= 3 && s[0] == '[' && s[len(s)-1] == ']' {
			if c, ok := classOf(s[1 : len(s)-1]); ok {
				l = append(l, m.setOf(c))
			}
		}
		switch x := string(s); {
		case x == ".":
			l = append(l, m.setOf(func(r rune) bool { return r != 10 }))
		case x == "^":
			l = append(l, part{Node: api.Node{Kind: api.NodeBegin}})
		case x == "$":
			l = append(l, part{Node: api.Node{Kind: api.NodeEnd}})
		case len(s) == 1 && !strings.Contains(`\()[]{}*+?|.^$`, x):
			l = append(l, m.setOf(only(s[0])))
		}
		if has, _, ok := escapeOf(s); ok {
			l = append(l, m.setOf(has))
		}
		return l
	})
}

// only answers whether a rune is that one.
func only(c rune) func(rune) bool {
	return func(r rune) bool { return r == c }
}

// among answers whether a rune is one of those in the text.
func among(text string) func(rune) bool {
	return func(r rune) bool { return slices.Contains([]rune(text), r) }
}

// escapeOf answers which runes the escape s stands for, and the rune, if it is one, else -1; false, if it is none.
func escapeOf(s []rune) (has func(rune) bool, single rune, ok bool) {
	if len(s) != 2 || s[0] != '\\' {
		return nil, 0, false
	}
	const digits, capitals = "0123456789", "ABCDEFGHIJKLMNOPQRSTUVWXYZ"
	switch c := s[1]; {
	case strings.Contains(`\()[]{}*+?|.^$-`, string(c)):
		return only(c), c, true
	case c == 'n':
		return only(0x0a), 0x0a, true
	case c == 't':
		return only(0x09), 0x09, true
	case c == 'd':
		return among(digits), -1, true
	case c == 'w':
		return among(digits + capitals + "_" + strings.ToLower(capitals)), -1, true
	case c == 's':
		return among("\x09\x0a\x0d\x20"), -1, true
	}
	return nil, 0, false
}

// oneOf answers which runes s stands for, as a rune or an escape in a class, and the rune, if it is one, else -1; false, if it is neither.
func oneOf(s []rune) (has func(rune) bool, single rune, ok bool) {
	if len(s) == 1 && !strings.Contains(`\[]^-`, string(s)) {
		return only(s[0]), s[0], true
	}
	return escapeOf(s)
}

// memberOf answers which runes the member s stands for; false, if it is none.
func memberOf(s []rune) (func(rune) bool, bool) {
	if has, _, ok := oneOf(s); ok {
		return has, true
	}
	for i := 1; i < len(s); i++ {
		if s[i] == '-' {
			_, from, one := oneOf(s[:i])
			_, upTo, another := oneOf(s[i+1:])
			if one && another && 0 <= from && from <= upTo { // no more than one rune is -1
				return func(r rune) bool { return from <= r && r <= upTo }, true
			}
		}
	}
	return nil, false
}

// classOf answers which runes a class with that between its brackets stands for; false, if it is none.
func classOf(s []rune) (func(rune) bool, bool) {
	if s[0] == '^' {
		if len(s) < 2 {
			return nil, false
		}
		has, ok := membersOf(s[1:])
		return func(r rune) bool { return !has(r) }, ok
	}
	return membersOf(s)
}

// membersOf answers which runes the members s, at least one, stand for; false, if they are none.
func membersOf(s []rune) (func(rune) bool, bool) {
	// known[i]: the first i runes are members, and these are theirs
	known := map[int]func(rune) bool{0: func(rune) bool { return false }}
	for i := 1; i <= len(s); i++ {
		for size := 1; size <= 5 && size <= i; size++ {
			ahead, a := known[i-size]
			has, b := memberOf(s[i-size : i])
			if a && b {
				known[i] = func(r rune) bool { return ahead(r) || has(r) }
			}
		}
	}
	has, ok := known[len(s)]
	return has, ok
}

// setOf answers the set of those of all numbers from 0 to 10ffff that it has. What stands between two of the marks is all in it or all out of it.
func (m *model) setOf(has func(rune) bool) part {
	var pairs []rune
	last := rune(-2)
	for i, from := range m.marks {
		if !has(from) {
			continue
		}
		upTo := rune(0x10ffff)
		if i+1 < len(m.marks) {
			upTo = m.marks[i+1] - 1
		}
		if last+1 == from {
			pairs[len(pairs)-1] = upTo
		} else {
			pairs = append(pairs, from, upTo)
		}
		last = upTo
	}
	return part{Node: api.Node{Kind: api.NodeSet, Set: pairs}}
}

// marksOf answers the places where a set of a text's classes or escapes may begin, or what is behind its end.
func marksOf(text []rune) []rune {
	l := []rune{0}
	for _, r := range append([]rune("\t\n\r 09AZ_az"), text...) {
		l = append(l, r, min(r+1, 0x10ffff))
	}
	slices.Sort(l)
	return slices.Compact(l)
}

// sizeOf answers the size of a part.
func sizeOf(p part) int {
	n := 0
	for _, kid := range p.kids {
		n += sizeOf(kid)
	}
	if p.Kind != api.NodeRep {
		return 1 + n
	}
	times := p.Max
	if p.Max == -1 {
		times = p.Min + 1
	}
	if times < 1 {
		times = 1
	}
	return 1 + times*n
}

// listOf answers the nodes of a part, with so many ahead of them.
func listOf(p part, ahead int) []api.Node {
	var l []api.Node
	n := p.Node
	for _, kid := range p.kids {
		l = append(l, listOf(kid, ahead+len(l))...)
		n.Kids = append(n.Kids, ahead+len(l)-1)
	}
	return append(l, n)
}

// parseOf answers what Parse answers.
func parseOf(t *testing.T, s string) ([]api.Node, api.Errno) {
	if len(s) > 128 {
		return nil, api.ErrLong
	}
	if !utf8.ValidString(s) {
		return nil, api.ErrUtf
	}
	m := model{[]rune(s), marksOf([]rune(s)), map[place][]part{}}
	l := m.alternatives(0, len(m.s))
	switch {
	case len(l) == 0:
		return nil, api.ErrRegex
	case len(l) > 1:
		t.Fatalf("%q: %d ways to take it", s, len(l))
	case l[0].deep > 16:
		return nil, api.ErrDeep
	case sizeOf(l[0]) > 1000:
		return nil, api.ErrMany
	}
	return listOf(l[0], 0), api.OK
}

// same tells whether two trees are.
func same(a, b []api.Node) bool {
	return slices.EqualFunc(a, b, func(x, y api.Node) bool {
		return x.Kind == y.Kind && x.Min == y.Min && x.Max == y.Max && slices.Equal(x.Kids, y.Kids) && slices.Equal(x.Set, y.Set)
	})
}

// check holds Parse(s) against the model and answers its error.
func check(t *testing.T, s string) api.Errno {
	t.Helper()
	want, e := parseOf(t, s)
	got, f := rexp.Parse(s)
	if e != f || !same(got, want) {
		t.Errorf("%q: %v, %d, not %v, %d", s, got, f, want, e)
	}
	return f
}

// The model itself, by the chapter's examples.
func TestModel(t *testing.T) {
	for s, want := range map[string]string{
		"a|b":      "[{2 [] 0 0 [97 97]} {2 [] 0 0 [98 98]} {4 [0 1] 0 0 []}] 0",
		"ab*":      "[{2 [] 0 0 [97 97]} {2 [] 0 0 [98 98]} {5 [1] 0 -1 []} {3 [0 2] 0 0 []}] 0",
		"":         "[{1 [] 0 0 []}] 0",
		"[^a]":     "[{2 [] 0 0 [0 96 98 1114111]}] 0",
		"[ac-eb]":  "[{2 [] 0 0 [97 101]}] 0",
		".":        "[{2 [] 0 0 [0 9 11 1114111]}] 0",
		"(a){2,3}": "[{2 [] 0 0 [97 97]} {5 [0] 2 3 []}] 0",
		"[b-a]":    "[] 40",
		"{2}":      "[] 40",
		"\\q":      "[] 40",
	} {
		l, e := parseOf(t, s)
		if got := fmt.Sprint(l, int(e)); got != want {
			t.Errorf("%q: %s, not %s", s, got, want)
		}
	}
	if len(behindAtoms) != 3+9+45 {
		t.Errorf("%d repetitions", len(behindAtoms))
	}
}
