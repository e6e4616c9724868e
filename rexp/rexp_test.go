package rexp_test

import (
	"fmt"
	"math/rand"
	"slices"
	"strings"
	"sync"
	"testing"
	"unicode/utf8"

	"garner/api"
	"garner/rexp"
)

// set answers a node for those pairs of runes.
func set(pairs ...rune) api.Node {
	return api.Node{Kind: api.NodeSet, Set: pairs}
}

// one answers a node for that rune.
func one(r rune) api.Node {
	return set(r, r)
}

// row, alt and rep answer nodes of those kids.
func row(kids ...int) api.Node {
	return api.Node{Kind: api.NodeSeq, Kids: kids}
}

func alt(kids ...int) api.Node {
	return api.Node{Kind: api.NodeAlt, Kids: kids}
}

func rep(kid, from, upTo int) api.Node {
	return api.Node{Kind: api.NodeRep, Kids: []int{kid}, Min: from, Max: upTo}
}

var (
	empty = api.Node{Kind: api.NodeEmpty}
	begin = api.Node{Kind: api.NodeBegin}
	end   = api.Node{Kind: api.NodeEnd}
	dot   = set(0, 9, 11, 0x10ffff)
)

// nodes answers a tree.
func nodes(l ...api.Node) []api.Node {
	return l
}

// checkTree checks that s is a pattern with that tree.
func checkTree(t *testing.T, s string, want ...api.Node) {
	t.Helper()
	got, e := rexp.Parse(s)
	if e != api.OK || !same(got, want) {
		t.Errorf("%q: %v, %d, not %v", s, got, e, want)
	}
}

// checkError checks that Parse of s answers that error and no tree.
func checkError(t *testing.T, e api.Errno, texts ...string) {
	t.Helper()
	for _, s := range texts {
		if l, f := rexp.Parse(s); f != e || len(l) != 0 {
			t.Errorf("%q: %v, %d, not %d", s, l, f, e)
		}
	}
}

// P18.1: trees that were written by hand.
func TestTrees(t *testing.T) {
	checkTree(t, "a|b", one('a'), one('b'), alt(0, 1))
	checkTree(t, "ab*", one('a'), one('b'), rep(1, 0, -1), row(0, 2))
	checkTree(t, "", empty)
	checkTree(t, "[^a]", set(0, 0x60, 0x62, 0x10ffff))
	checkTree(t, "[ac-eb]", set('a', 'e'))
	for s, n := range map[string]api.Node{"*": rep(0, 0, -1), "+": rep(0, 1, -1), "?": rep(0, 0, 1), "{0}": rep(0, 0, 0), "{3}": rep(0, 3, 3), "{8}": rep(0, 8, 8), "{0,0}": rep(0, 0, 0), "{0,8}": rep(0, 0, 8), "{2,5}": rep(0, 2, 5), "{8,8}": rep(0, 8, 8)} {
		checkTree(t, "a"+s, one('a'), n)
		checkTree(t, "()"+s, empty, n)
		checkTree(t, "^"+s, begin, n)
		checkTree(t, "$"+s, end, n)
		checkTree(t, "."+s, dot, n)
		checkTree(t, "[b]"+s, one('b'), n)
		checkTree(t, "\\*"+s, one('*'), n)
		n.Kids = []int{1}
		checkTree(t, "(a*)"+s, one('a'), rep(0, 0, -1), n)
		n.Kids = []int{2}
		checkTree(t, "(a|b)"+s, one('a'), one('b'), alt(0, 1), n)
		checkTree(t, "(ab)"+s, one('a'), one('b'), row(0, 1), n)
		checkTree(t, "a()b"+s+"c", one('a'), empty, one('b'), n, one('c'), row(0, 1, 3, 4))
	}
	checkTree(t, "()", empty)
	checkTree(t, "(())", empty)
	checkTree(t, "()()", empty, empty, row(0, 1))
	checkTree(t, "|", empty, empty, alt(0, 1))
	checkTree(t, "||a", empty, empty, one('a'), alt(0, 1, 2))
	checkTree(t, "a|", one('a'), empty, alt(0, 1))
	checkTree(t, "(|)", empty, empty, alt(0, 1))
	checkTree(t, "(a)", one('a'))
	checkTree(t, "((a))", one('a'))
	checkTree(t, "abc", one('a'), one('b'), one('c'), row(0, 1, 2))
	checkTree(t, "(ab)c", one('a'), one('b'), row(0, 1), one('c'), row(2, 3))
	checkTree(t, "a(bc)", one('a'), one('b'), one('c'), row(1, 2), row(0, 3))
	checkTree(t, "(a|b)|c", one('a'), one('b'), alt(0, 1), one('c'), alt(2, 3))
	checkTree(t, "a|(b|c)", one('a'), one('b'), one('c'), alt(1, 2), alt(0, 3))
	checkTree(t, "ab|c(d|e)*", one('a'), one('b'), row(0, 1), one('c'), one('d'), one('e'), alt(4, 5), rep(6, 0, -1), row(3, 7), alt(2, 8))
	checkTree(t, "^.$", begin, dot, end, row(0, 1, 2))
	checkTree(t, "a^$b", one('a'), begin, end, one('b'), row(0, 1, 2, 3))
	checkTree(t, "-, 0:", one('-'), one(','), one(' '), one('0'), one(':'), row(0, 1, 2, 3, 4))
}

// P18.1: classes and escapes.
func TestClasses(t *testing.T) {
	for s, n := range map[string]api.Node{
		"\\d": set('0', '9'), "\\w": set('0', '9', 'A', 'Z', '_', '_', 'a', 'z'), "\\s": set(9, 10, 13, 13, 32, 32),
		"\\n": one(10), "\\t": one(9), "\\-": one('-'), "\\\\": one('\\'),
		"[a]": one('a'), "[aa]": one('a'), "[ab]": set('a', 'b'), "[ba]": set('a', 'b'), "[ac]": set('a', 'a', 'c', 'c'), "[ca]": set('a', 'a', 'c', 'c'),
		"[a-a]": one('a'), "[a-b]": set('a', 'b'), "[a-cb]": set('a', 'c'), "[a-eb-c]": set('a', 'e'), "[b-ca-e]": set('a', 'e'), "[a-cc-e]": set('a', 'e'), "[a-cd-e]": set('a', 'e'), "[d-ea-c]": set('a', 'e'), "[a-ce-f]": set('a', 'c', 'e', 'f'), "[a-cb-e]": set('a', 'e'),
		"[a-zc-da]": set('a', 'z'), "[x-za-cf]": set('a', 'c', 'f', 'f', 'x', 'z'),
		"[\\d]": set('0', '9'), "[\\w\\d]": set('0', '9', 'A', 'Z', '_', '_', 'a', 'z'), "[\\s\\t\\n]": set(9, 10, 13, 13, 32, 32), "[\\da]": set('0', '9', 'a', 'a'),
		"[\\n-\\-]": set(10, '-'), "[\\t-a]": set(9, 'a'), "[!-\\]]": set('!', ']'), "[\\--\\-]": one('-'), "[\\^a]": set('^', '^', 'a', 'a'), "[a\\^]": set('^', '^', 'a', 'a'),
		"[\\-\\]]": set('-', '-', ']', ']'), "[.*+?|(){}$]": set('$', '$', '(', '+', '.', '.', '?', '?', '{', '}'),
		"[^\\d]": set(0, '0'-1, '9'+1, 0x10ffff), "[^\\s]": set(0, 8, 11, 12, 14, 31, 33, 0x10ffff), "[^b-ya]": set(0, 'a'-1, 'z', 0x10ffff),
		"[^\x00]": set(1, 0x10ffff), "[^\U0010ffff]": set(0, 0x10fffe), "[^\x00\U0010ffff]": set(1, 0x10fffe), "[\x00]": one(0), "[\U0010ffff]": one(0x10ffff),
		"[\x00-\U0010ffff]": set(0, 0x10ffff), "[^\x00-\U0010ffff]": set(), "[^\x01-\U0010ffff]": one(0), "[^\x00-\U0010fffe]": one(0x10ffff), "[^\\n]": dot, "[^\\^]": set(0, '^'-1, '^'+1, 0x10ffff),
		"[^a-z\x00-`{-\U0010ffff]": set(), "é": one('é'), "[é-€]": set('é', '€'), "\ufffd": one(0xfffd), "[😀]": one('😀'), "\x00": one(0), "\x7f": one(0x7f), "\n": one(10),
	} {
		checkTree(t, s, n)
		checkTree(t, s+s, n, n, row(0, 1))
	}
	// what a class has isn't told to end at what no text has as a rune of its own
	checkTree(t, "[\ud7ff-\ue000]", set(0xd7ff, 0xe000))
	checkTree(t, "[^\ud7ff-\ue000]", set(0, 0xd7fe, 0xe001, 0x10ffff))
	checkTree(t, "[\ud7ff\ue000]", set(0xd7ff, 0xd7ff, 0xe000, 0xe000))
	checkTree(t, "[^\x00-\ud7ff\ue000-\U0010ffff]", set(0xd800, 0xdfff))
}

// P18.1: each rune, as itself, behind a backslash, and in a class.
func TestEachRune(t *testing.T) {
	t.Parallel()
	for r := rune(0); r <= utf8.MaxRune; r++ {
		if !utf8.ValidRune(r) {
			continue
		}
		c := string(r)
		for _, x := range []struct {
			s, unplain string
			reverse    bool
		}{{c, `\()[]{}*+?|.^$`, false}, {"[" + c + "]", `\[]^-`, false}, {`\` + c, `\()[]{}*+?|.^$-`, true}, {`[\` + c + "]", `\()[]{}*+?|.^$-`, true}} {
			if r < 0x80 && strings.Contains(x.unplain+"dwsnt", c) && (x.reverse || strings.Contains(x.unplain, c)) {
				continue
			}
			l, e := rexp.Parse(x.s)
			switch {
			case x.reverse && (e != api.ErrRegex || l != nil):
				t.Fatalf("%q: %v, %d", x.s, l, e)
			case !x.reverse && (e != api.OK || !same(l, nodes(one(r)))):
				t.Fatalf("%q: %v, %d", x.s, l, e)
			}
		}
	}
	for r := rune(0); r < 0x100; r++ {
		for _, s := range []string{"%", "[%]", "[^%]", `\%`, `[\%]`, `[^\%]`, "[%-\U0010ffff]", "[\x00-%]", "a%", "%a", "a{%}", "a{1,%}", "a{1%", "[a-%]", "[a%", `[\%-z]`, `[!-\%]`} {
			check(t, strings.ReplaceAll(s, "%", string(r)))
		}
	}
}

// P18.1: each repetition.
func TestRepetitions(t *testing.T) {
	for m := range 10 {
		for _, s := range []string{"a{%d}", "a{%d,}", "a{,%d}", "a{%d", "a%d}", "a{0%d}", "a{%d0}", "a{-%d}", "a{+%d}", "a{ %d}", "a{%d }", "a{%d}{1}", "a{%d}?", "{%d}", "(a{%d})*", "a{%d}b", "a|{%d}", "({%d})"} {
			check(t, fmt.Sprintf(s, m))
		}
		for n := range 10 {
			for _, s := range []string{"a{%d,%d}", "a{%d%d}", "a{%d, %d}", "a{%d,%d,}", "a{%d,%d", "a{%d,,%d}", "a{%d-%d}", "a{%d,%d}*", "a{%d}{%d}"} {
				check(t, fmt.Sprintf(s, m, n))
			}
			e := api.ErrRegex
			if m <= n && n <= 8 {
				e = api.OK
			}
			if _, f := rexp.Parse(fmt.Sprintf("a{%d,%d}", m, n)); f != e {
				t.Errorf("{%d,%d}: %d", m, n, f)
			}
		}
	}
	checkError(t, api.ErrRegex, "a{٣}", "a{1,٣}", "a{３}") // digits of other writings
}

// P18.1: what is no pattern.
func TestNoPatterns(t *testing.T) {
	checkError(t, api.ErrRegex, "a**", "*", "(", "[]", "{2}", "a{9}", "[b-a]", "[\\d-z]", "\\q")
	checkError(t, api.ErrRegex, "+", "?", "{", "}", "]", "[", ")", "\\", "a|*", "|*", "(*)", "(*", "()(", ")(", "())", "((a)", "a)", "(a", "(a|", "a)|b", "a}", "a]", "a{", "a{}", "a{1", "a{1,", "a{1,2", "a{,}", "a{2,1}", "a{1}{1}", "a*?", "a+?", "a??", "a{1}?", "a+*", "a?+", "(?:a)", "(?i)a")
	checkError(t, api.ErrRegex, "[", "[^", "[^]", "[a", "[^a", "[a-", "[a-]", "[-a]", "[-]", "[--a]", "[a--]", "[a-b-c]", "[a^]", "[a^b]", "[^^]", "[^-]", "[[]", "[a[]", "[]]", "[]a]", "[a]]", "[z-a]", "[\\w-z]", "[a-\\d]", "[\\s-\\w]", "[!-\\w]", "[\\q]", "[\\", "[a\\]", "[a-\\]", "[\\n-\\t]", "[b-a-c]", "[a-z", "[[:alpha:]]")
	checkError(t, api.ErrRegex, "\\D", "\\W", "\\S", "\\N", "\\r", "\\a", "\\b", "\\B", "\\0", "\\1", "\\x41", "\\u0041", "\\é", "\\ ", "\\\n", "\\,", "\\/", "\\\"", "\\_", "a\\", "(\\", "(\\)", "[\\D]")
	checkError(t, api.ErrRegex, "x{2}{", "x{2")
}

// P18.1: the errors' order.
func TestErrorsOrder(t *testing.T) {
	t.Parallel()
	checkError(t, api.ErrLong, strings.Repeat("a", 129), strings.Repeat("\xff", 129), strings.Repeat("*", 129), strings.Repeat("(", 65)+strings.Repeat(")", 65), strings.Repeat("é", 65), strings.Repeat("(", 40)+"a{8}"+strings.Repeat("){8}", 40), strings.Repeat("a", 100000), strings.Repeat("(", 1000000))
	checkError(t, api.ErrUtf, "\xff", "*\xff", "\xff*", strings.Repeat("\xff", 128), "(\xc3", "[\xc3]", "\\\x80", "a\xed\xa0\x80", "\xc0\x80", strings.Repeat("(", 127)+"\xff", strings.Repeat("(", 17)+strings.Repeat(")", 17)+"\xff", "((((a{8}){8}){8}){8}\xff")
	checkError(t, api.ErrRegex, strings.Repeat("(", 128), strings.Repeat("(", 17), strings.Repeat("(", 17)+strings.Repeat(")", 18), strings.Repeat("(", 17)+strings.Repeat(")", 16), strings.Repeat("(", 17)+strings.Repeat(")", 17)+"**", strings.Repeat("(", 17)+"*"+strings.Repeat(")", 17), "(((a{8}){8}){8}){8}*", "(((a{8}){8}){8}){8})", "(((a{8}){8}){8}){9}")
	checkError(t, api.ErrDeep, strings.Repeat("(", 17)+strings.Repeat(")", 17), strings.Repeat("(", 64)+strings.Repeat(")", 64), strings.Repeat("(", 17)+"a{8}"+strings.Repeat("){8}", 17), strings.Repeat("(", 25)+"a{8}"+strings.Repeat("){8}", 24)+")")
	checkError(t, api.ErrMany, "(((a{8}){8}){8}){8}", strings.Repeat("(", 16)+"a{8}"+strings.Repeat("){8}", 16), strings.Repeat("(", 16)+strings.Repeat("a", 40)+"a{8}"+strings.Repeat("){8}", 16))
	long := strings.Repeat("é", 64) // 128 bytes
	if l, e := rexp.Parse(long); e != api.OK || len(l) != 65 {
		t.Errorf("%d, %d", len(l), e)
	}
	for n := 100; n < 140; n++ {
		for _, s := range []string{strings.Repeat("a", n), strings.Repeat("|", n), strings.Repeat("*", n), "é" + strings.Repeat("b", n), "[" + strings.Repeat("a-", n/2) + "b]", strings.Repeat("()", n/2) + "a", strings.Repeat("a*", n/2)} {
			check(t, s)
		}
	}
}

// P18.1: parentheses that are open at one place.
func TestDepth(t *testing.T) {
	nest := func(n int, s string) string { return strings.Repeat("(", n) + s + strings.Repeat(")", n) }
	for n := range 20 {
		for _, s := range []string{"", "a", "[(((((]", "\\(\\(\\(", "a|b", "()", "(a)(b)", "()|()"} {
			check(t, nest(n, s))
			check(t, "(a)"+nest(n, s))
			check(t, nest(n, s)+"()")
			check(t, "("+nest(n, s)+")(a)")
			check(t, "a|"+nest(n, s)+"*")
		}
	}
	checkTree(t, nest(16, "a"), one('a'))
	checkTree(t, nest(15, "()"), empty)
	checkError(t, api.ErrDeep, nest(17, "a"), nest(16, "()"), nest(16, "a(b)"), nest(16, "a|(b)"), nest(15, "()(())"), nest(15, "(())()"))
	checkTree(t, nest(15, "()()"), empty, empty, row(0, 1))
	if _, e := rexp.Parse(strings.Repeat("()", 64)); e != api.OK {
		t.Errorf("%d", e)
	}
	if _, e := rexp.Parse(nest(16, "a") + nest(16, "b") + nest(16, "c")); e != api.OK {
		t.Errorf("%d", e)
	}
}

// P18.1: the root's size, at its edge.
func TestSize(t *testing.T) {
	const most = "((a{8}){8}){8}((a{8}){5}){8}(a{8}){4}" // of 585, 369 and 37 with what joins them 992
	sized := func(s string, n int) {
		t.Helper()
		e := api.OK
		if n > 1000 {
			e = api.ErrMany
		}
		tree, f := parseOf(t, s)
		if f != e {
			t.Fatalf("%q: %d in the model", s, f)
		}
		if l, g := rexp.Parse(s); g != e || !same(l, tree) {
			t.Errorf("%q of size %d: %d", s, n, g)
		}
	}
	sized(most+"a{7}", 1000)
	sized(most+"a{8}", 1001)
	sized(most+"aaaaaaaa", 1000)
	sized(most+"aaaaaaaaa", 1001)
	sized(most+"a*b+a?", 992+2+3+2)
	sized(most+"a*b+a?a", 1000)
	sized(most+"a*b+b+", 1000)
	sized(most+"a+b+b+", 1001)
	sized(most+"a{0}a{0,0}a{1}a{0,1}", 1000)
	sized(most+"a{0}a{0,0}a{1}a{0,2}", 1001)
	sized(most+"a{0,7}", 1000)
	sized(most+"a{1,8}", 1001)
	sized(most+"(a|b|c|)()()$", 1000)
	sized(most+"(a|b|c|)()()^$", 1001)
	for s, n := range map[string]int{"*": 1000, "?": 1000, "{0}": 1000, "{0,0}": 1000, "{1}": 1000, "{0,1}": 1000, "+": 1999, "{2}": 1999, "{0,2}": 1999, "{1,2}": 1999} {
		sized("("+most+"a{6})"+s, n)
		sized("("+most+"a{7})"+s, 2*n)
	}
	sized("("+most+"a{6})*|", 1002)
	sized("(((((a{8}){8}){8}){8}))*", 4682)
	sized("a{8}|(((a{8}){8}){7}){0}", 1+9+1+512)
	sized("((((a{8}){8}){8}){8}){0}", 4682) // at least once, though it never stands there
}

// P18.1: all short rows of some pieces.
func TestShortRows(t *testing.T) {
	for name, x := range map[string]struct {
		ahead  string
		pieces []string
		most   int
	}{
		"alternatives": {"", []string{"a", "(", ")", "|", "*"}, 6},
		"patterns":     {"", []string{"a", "(", ")", "|", "*", "+", "?", "\\", "[", "]", "^", "$", "-", "{1}", ".", "d"}, 4},
		"classes":      {"[", []string{"a", "c", "-", "^", "]", "\\", "d", "[", "-"}, 5},
		"negatives":    {"[^", []string{"b", "a", "-", "^", "]", "\\d", "\\-"}, 5},
		"repetitions":  {"a{", []string{"0", "2", "8", "9", ",", "}", "{", "a"}, 5},
	} {
		t.Run(name, func(t *testing.T) {
			t.Parallel()
			kinds := map[api.Errno]int{}
			var all func(s string, n int)
			all = func(s string, n int) {
				kinds[check(t, s)]++
				if n == 0 {
					return
				}
				for _, p := range x.pieces {
					all(s+p, n-1)
				}
			}
			all(x.ahead, x.most)
			if kinds[api.OK] < 10 || kinds[api.ErrRegex] < 1000 {
				t.Errorf("%v", kinds)
			}
		})
	}
}

// writer writes patterns by chance.
type writer struct {
	*rand.Rand
}

func (w writer) of(l ...string) string {
	return l[w.Intn(len(l))]
}

func (w writer) alternative(size int) string {
	s := w.row(size)
	for w.Intn(3) == 0 {
		s += "|" + w.row(size)
	}
	return s
}

func (w writer) row(size int) string {
	s := ""
	for w.Intn(5) > 0 && len(s) < size {
		s += w.atom(size / 2)
		if w.Intn(2) == 0 {
			s += w.of("*", "+", "?", fmt.Sprintf("{%d}", w.Intn(9)), fmt.Sprintf("{%d,%d}", w.Intn(4), 4+w.Intn(5)))
		}
	}
	return s
}

func (w writer) atom(size int) string {
	switch n := w.Intn(8); {
	case n < 3 && size > 1:
		return "(" + w.alternative(size) + ")"
	case n < 4:
		s := "[" + w.of("", "^")
		for n := w.Intn(4); n >= 0; n-- {
			s += w.member()
		}
		return s + "]"
	case n < 5:
		return w.of("\\n", "\\t", "\\d", "\\w", "\\s", "\\-", "\\(", "\\\\", "\\$", "\\]")
	case n < 6:
		return w.of(".", "^", "$")
	}
	return w.of("a", "b", "-", ",", "é", "€", "😀", " ", "0", "\x00", "\U0010ffff", "\ufffd")
}

func (w writer) member() string {
	if w.Intn(3) > 0 {
		return w.of("a", "b", "z", "0", "5", "é", "\\d", "\\w", "\\s", "\\-", "\\^", "$", "\\n", "(", "|", "\U0010ffff")
	}
	return w.of("\x00", "!", "a", "\\n", "\\-", "\\*") + "-" + w.of("b", "a", "é", "\\]", "z", "\\}", "\ud7ff", "😀")
}

// change answers s with one of its runes gone, doubled, or another one.
func (w writer) change(s string) string {
	l := []rune(s)
	i := w.Intn(len(l) + 1)
	c := []rune(w.of("a", "(", ")", "[", "]", "^", "-", "\\", "{", "}", ",", "1", "9", "*", "|", "$", "."))
	switch w.Intn(3) {
	case 0:
		return string(slices.Concat(l[:i], c, l[i:]))
	case 1:
		return string(slices.Concat(l[:i], l[min(i+1, len(l)):]))
	}
	return string(slices.Concat(l[:i], c, l[min(i+1, len(l)):]))
}

// P18.1: patterns by chance, short and long ones, and what is left of them behind changes.
func TestByChance(t *testing.T) {
	for seed := range 8 {
		t.Run(fmt.Sprint(seed), func(t *testing.T) {
			t.Parallel()
			w := writer{rand.New(rand.NewSource(int64(seed)))}
			kinds := map[api.Errno]int{}
			for range 150 {
				s := w.alternative(1 + w.Intn(60))
				for len(s) > 0 {
					kinds[check(t, s)]++
					if w.Intn(3) == 0 {
						break
					}
					s = w.change(s)
				}
			}
			if kinds[api.OK] < 100 || kinds[api.ErrRegex] < 30 {
				t.Errorf("%v", kinds)
			}
		})
	}
}

// patterns answers patterns by chance that are at most so long.
func patterns(t *testing.T, seed int64, count, size int) []string {
	w := writer{rand.New(rand.NewSource(seed))}
	var l []string
	for len(l) < count {
		s := w.alternative(size)
		if _, e := rexp.Parse(s); len(s) <= size && e == api.OK {
			l = append(l, s)
		}
	}
	return l
}

// P18.2: a pattern in parentheses.
func TestInParentheses(t *testing.T) {
	l := append(patterns(t, 1, 3000, 126), "", "a", "a|b", "|", "()", "a*", "[^a]", "\\)", "[)]", "[(]")
	for _, s := range l {
		bare, e := rexp.Parse(s)
		in, f := rexp.Parse("(" + s + ")")
		if f == api.ErrDeep || f == api.ErrLong {
			continue
		}
		if e != api.OK || f != api.OK || !same(bare, in) {
			t.Errorf("%q: %v, %d; in parentheses %v, %d", s, bare, e, in, f)
		}
	}
}

// P18.2: two patterns with | between them.
func TestJoined(t *testing.T) {
	var l []string
	for _, s := range append(patterns(t, 2, 1500, 60), "", "a", "ab", "(a|b)*", "()", "^", "[|]", "\\|") {
		if tree, _ := rexp.Parse(s); tree[len(tree)-1].Kind != api.NodeAlt {
			l = append(l, s)
		}
	}
	for i, s := range l {
		u := l[(i*7+3)%len(l)]
		a, _ := rexp.Parse(s)
		b, _ := rexp.Parse(u)
		want := slices.Clone(a)
		for _, n := range b {
			n.Kids = slices.Clone(n.Kids)
			for k := range n.Kids {
				n.Kids[k] += len(a)
			}
			want = append(want, n)
		}
		want = append(want, alt(len(a)-1, len(a)+len(b)-1))
		got, e := rexp.Parse(s + "|" + u)
		if e == api.ErrMany {
			continue
		}
		if e != api.OK || !same(got, want) {
			t.Errorf("%q|%q: %v, %d, not %v", s, u, got, e, want)
		}
	}
}

// spoil writes over a list and its spare room.
func spoil[T any](l []T, with T) {
	l = l[:cap(l)]
	for i := range l {
		l[i] = with
	}
}

const rich = `a(b|c)*\w{2,3}|[^\d\s](^|$)|.\-x|[a-cx-z]+|()`

// P18.3: what is answered is new memory, and no two lists of one answer share any.
func TestMemory(t *testing.T) {
	first, _ := rexp.Parse(rich)
	for i := range first {
		for _, kids := range []bool{true, false} {
			l, _ := rexp.Parse(rich)
			want, _ := rexp.Parse(rich)
			if kids {
				spoil(l[i].Kids, -7)
				l[i].Kids, want[i].Kids = nil, nil
			} else {
				spoil(l[i].Set, -7)
				l[i].Set, want[i].Set = nil, nil
			}
			if !same(l, want) {
				t.Errorf("node %d shares memory with another", i)
			}
		}
	}
	for range 2 {
		l, e := rexp.Parse(rich)
		if e != api.OK || !same(l, first) {
			t.Fatalf("%v, %d", l, e)
		}
		for _, n := range l {
			spoil(n.Kids, -1)
			spoil(n.Set, -1)
		}
		spoil(l, api.Node{Kind: -1})
	}
	want, _ := parseOf(t, rich)
	if !same(first, want) {
		t.Errorf("%v, not %v", first, want)
	}
}

// Many ask at once, patterns and what is none.
func TestAtOnce(t *testing.T) {
	l := append(patterns(t, 3, 50, 100), "*", "(", "\xff", strings.Repeat("(", 17)+strings.Repeat(")", 17), strings.Repeat("a", 129))
	var wg sync.WaitGroup
	for range 16 {
		wg.Add(1)
		go func() {
			defer wg.Done()
			for _, s := range l {
				check(t, s)
			}
		}()
	}
	wg.Wait()
}

// The same is answered again, also behind faults.
func TestAgain(t *testing.T) {
	for _, s := range []string{"a", "(", "a|b", "[", "*", rich, "\\q", ""} {
		for _, ahead := range []string{"(", "((((", "a", "\xff", "[^", rich, strings.Repeat("(", 20) + strings.Repeat(")", 20)} {
			a, e := rexp.Parse(s)
			rexp.Parse(ahead)
			if b, f := rexp.Parse(s); e != f || !same(a, b) {
				t.Errorf("%q behind %q: %v, %d", s, ahead, b, f)
			}
		}
	}
}
