package graph

import (
	"reflect"
	"slices"
	"strings"
	"testing"

	"garner/api"
	"garner/rexp"
)

// graphOf answers the graph of a pattern, and its tree's size.
func graphOf(t *testing.T, pattern string) (*Graph, int) {
	t.Helper()
	tree, e := rexp.Parse(pattern)
	if e != api.OK {
		t.Fatalf("%q: error %d", pattern, e)
	}
	return New(tree), sizeOf(tree, len(tree)-1)
}

// sizeOf answers the size of a node by the words of chapter 18.
func sizeOf(tree []api.Node, n int) int {
	node, sum := tree[n], 0
	for _, kid := range node.Kids {
		sum += sizeOf(tree, kid)
	}
	if node.Kind == api.NodeRep {
		times := node.Max
		if times < 0 {
			times = node.Min + 1
		}
		sum *= max(times, 1)
	}
	return 1 + sum
}

// walked answers whether all is matched behind each rune of a text, and ahead of the first one. At each place it starts anew, if often.
func walked(g *Graph, s string, often bool) []bool {
	here, next := g.Set(), g.Set()
	g.Start(here)
	l := []bool{g.Spread(here, Place{First: true, Last: s == ""})}
	runes := []rune(s)
	for i, r := range runes {
		g.Step(here, next, r)
		here, next = next, here
		if often {
			g.Start(here)
		}
		l = append(l, g.Spread(here, Place{Last: i == len(runes)-1}))
	}
	return l
}

func TestWalks(t *testing.T) {
	for _, r := range []struct {
		pattern, text string
		often         bool
		want          string
	}{
		{"", "", false, "1"}, {"", "ab", false, "100"}, {"", "ab", true, "111"},
		{"a", "", false, "0"}, {"a", "a", false, "01"}, {"a", "aa", false, "010"}, {"a", "aab", true, "0110"}, {"a", "b", false, "00"},
		{"ab|a", "ab", false, "011"}, {"a*", "aab", false, "1110"}, {"a+b?", "aab", false, "0111"}, {"a{2,3}", "aaaa", false, "00110"}, {"a{2,3}", "aaaa", true, "00111"}, {"a{2}", "aaa", false, "0010"}, {"a{0}", "a", false, "10"}, {"(ab){0,2}", "ababa", false, "101010"},
		{"^", "", false, "1"}, {"^", "a", true, "10"}, {"$", "a", true, "01"}, {"$", "a", false, "00"}, {"^a", "aa", true, "010"}, {"a$", "aa", true, "001"}, {"(^|a){2}", "aa", false, "111"}, {"(a$)*", "aa", true, "111"},
		{".", "\n\u00e9\xff", true, "0011"}, {"[b-d]", "abde", true, "00110"}, {"[^b-d]", "abde", true, "01001"},
	} {
		g, _ := graphOf(t, r.pattern)
		said := ""
		for _, ok := range walked(g, r.text, r.often) {
			said += map[bool]string{false: "0", true: "1"}[ok]
		}
		if said != r.want {
			t.Errorf("%q, %q, %v: %s, not %s", r.pattern, r.text, r.often, said, r.want)
		}
	}
}

// great are patterns near the greatest size, of all kinds.
var great = []string{
	"((a{8}){8}){8}((a{8}){5}){8}", "((a?b?){8}){8}((a?b?){8}){7}c", "(((a|b)?){8}){8}(((a|b)*){8}){5}c", "((a*b*){8}){8}c", "((.{8}){8}){8}(.{8}){8}c", "(((a|b){0,8}){0,8}){0,4}", "((((a{0,8}){0,8})+)+)+", "((((((a+)+)+)+)+)+)+", "(((^*$*()*){8}){8}){2}", "((((|){8}){8}){4}){0}",
	"((|||||||){8}){8}", "(((()*)*)*)*", "(((a{0}){8}){8}){7}",
}

// TestSizes: what a rune costs is no more than the states and the edges of a graph, and these are no more than a few times the pattern's size.
func TestSizes(t *testing.T) {
	for _, p := range slices.Concat(great, []string{"", "a", "()", "a*", "a|b", strings.Repeat("a|", 60), strings.Repeat("a?", 60), strings.Repeat("^", 100)}) {
		g, size := graphOf(t, p)
		edges := 0
		for _, s := range g.states {
			edges += len(s.next)
		}
		if len(g.states) > 2*size+1 || edges > 3*size+1 {
			t.Errorf("%q: %d states, %d edges, size %d", p, len(g.states), edges, size)
		}
		s := g.Set()
		for range 3 {
			g.Start(s)
			g.Spread(s, Place{First: true, Last: true})
		}
		all := slices.Sorted(slices.Values(s.list))
		if len(slices.Compact(all)) != len(s.list) {
			t.Errorf("%q: a state stands twice", p)
		}
	}
}

// TestClasses: runes lie in the same class, only if they lie in the same sets.
func TestClasses(t *testing.T) {
	for p, want := range map[string]int{"a": 3, "": 1, "aa": 3, "ab": 4, "[a-c]b": 5, ".": 5, "[^\x00-\U0010ffff]": 1, "[\x00-\U0010ffff]": 3, "\\d|\\w": 9} {
		g, _ := graphOf(t, p)
		if len(g.cuts)+1 != want || !slices.IsSorted(g.cuts) {
			t.Errorf("%q: cuts %v", p, g.cuts)
		}
	}
	g, _ := graphOf(t, "[b-d]")
	for r, want := range map[rune]int{0: 0, 'a': 0, 'b': 1, 'c': 1, 'd': 1, 'e': 2, 0x10ffff: 2} {
		if n := g.class(r); n != want {
			t.Errorf("%q: class %d, not %d", r, n, want)
		}
	}
}

// TestSet: a set has each state once, and is used again.
func TestSet(t *testing.T) {
	g, _ := graphOf(t, "abc")
	s := g.Set()
	s.add(1, 2, 1)
	s.add(2)
	s.add()
	if !slices.Equal(s.list, []int{1, 2}) || !slices.Equal(s.has, []bool{false, true, true, false}) {
		t.Errorf("%+v", s)
	}
	s.clear()
	if len(s.list) != 0 || slices.Contains(s.has, true) {
		t.Errorf("%+v", s)
	}
	s.add(1)
	if !slices.Equal(s.list, []int{1}) {
		t.Errorf("%+v", s)
	}
}

// TestUnchanged: a graph is what it was, whatever goes through it, and the tree too.
func TestUnchanged(t *testing.T) {
	for _, p := range great {
		tree, _ := rexp.Parse(p)
		other, _ := rexp.Parse(p)
		g, fresh := New(tree), New(other)
		walked(g, "aabab\u00e9", true)
		if !reflect.DeepEqual(g, fresh) || !reflect.DeepEqual(tree, other) {
			t.Errorf("%q: changed", p)
		}
	}
}
