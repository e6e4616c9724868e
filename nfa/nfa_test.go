package nfa_test

import (
	"math/rand"
	"reflect"
	"regexp"
	"strings"
	"sync"
	"testing"
	"time"
	"unicode/utf8"

	"garner/api"
	"garner/nfa"
	"garner/rexp"
)

// matches are texts of which the chapter's words tell whether a pattern matches them whole, and in part.
var matches = []struct {
	pattern, text string
	whole, part   bool
}{
	// the chapter's examples
	{"a*b", "aab", true, true}, {"a*b", "b", true, true}, {"a*b", "abx", false, true}, {"a*b", "xaby", false, true},
	{"^a", "ba", false, false}, {"(a|ab)(c|bcd)", "abcd", true, true}, {"", "", true, true}, {"", "x", false, true},
	{"$^", "", true, true}, {"$^", "a", false, false},
	// a set
	{"a", "", false, false}, {"a", "a", true, true}, {"a", "b", false, false}, {"a", "aa", false, true}, {"a", "ba", false, true},
	{"[a-cx]", "b", true, true}, {"[a-cx]", "x", true, true}, {"[a-cx]", "d", false, false}, {"[a-cx]", "`", false, false}, {"[a-cx]", "dxd", false, true},
	{"[^a]", "\n", true, true}, {".", "\n", false, false}, {".", "\x00", true, true}, {".", "\U0010ffff", true, true},
	// a row
	{"abc", "abc", true, true}, {"abc", "ab", false, false}, {"abc", "bc", false, false}, {"abc", "xabcx", false, true}, {"abc", "aabbcc", false, false}, {"aab", "aaab", false, true}, {"abab", "aababab", false, true},
	// an alternative
	{"a|b", "a", true, true}, {"a|b", "b", true, true}, {"a|b", "ab", false, true}, {"a|b", "c", false, false}, {"a|", "", true, true}, {"|a", "a", true, true}, {"|a", "b", false, true},
	{"ab|a|abc", "abc", true, true}, {"(ab|a)b", "ab", true, true}, {"(ab|a)b", "abb", true, true}, {"(|a)b", "b", true, true},
	// a repetition
	{"a*", "", true, true}, {"a*", "aaa", true, true}, {"a*", "aab", false, true}, {"a+", "", false, false}, {"a+", "a", true, true}, {"a+", "aa", true, true}, {"a+", "bab", false, true},
	{"a?", "", true, true}, {"a?", "a", true, true}, {"a?", "aa", false, true}, {"xa?y", "xy", true, true}, {"xa?y", "xaay", false, false},
	{"a{2,3}", "a", false, false}, {"a{2,3}", "aa", true, true}, {"a{2,3}", "aaa", true, true}, {"a{2,3}", "aaaa", false, true},
	{"a{0}", "", true, true}, {"a{0}", "a", false, true}, {"xa{0}y", "xy", true, true}, {"xa{0}y", "xay", false, false}, {"a{0,0}b", "ab", false, true}, {"a{1}", "a", true, true}, {"a{1}", "aa", false, true},
	{"a{8}", "aaaaaaaa", true, true}, {"a{8}", "aaaaaaa", false, false}, {"a{8}", "aaaaaaaaa", false, true}, {"a{0,8}", "aaaaaaaa", true, true}, {"a{0,8}", "aaaaaaaaa", false, true},
	{"(ab){2}", "abab", true, true}, {"(ab){2}", "ab", false, false}, {"(a|b){3}", "bab", true, true}, {"(a{2}){2}", "aaaa", true, true}, {"(a{2}){2}", "aaa", false, false}, {"(a{2})*", "aaa", false, true}, {"(a{2})+", "aaaa", true, true},
	{"(a{2,3}){2}", "aaaaaa", true, true}, {"(a{2,3}){2}", "aaaaaaa", false, true}, {"(a*)*b", "aaab", true, true}, {"(a*)*b", "aaa", false, false}, {"(a+)+", "", false, false},
	// kids that match nothing
	{"()*", "", true, true}, {"()*a", "a", true, true}, {"(){8}a", "a", true, true}, {"()+", "x", false, true}, {"(|a){3}", "", true, true}, {"(|a){3}", "aa", true, true}, {"(|a){3}", "aaaa", false, true}, {"(a*){2,3}b", "aab", true, true}, {"(a?){8}b", "aaab", true, true},
	{"[^\\n.]a", "a", false, false}, {"(a|[^\x00-\U0010ffff])b", "ab", true, true}, {"[^\x00-\U0010ffff]", "a", false, false}, {"[^\x00-\U0010ffff]*", "a", false, true},
	// the beginning and the end
	{"^", "", true, true}, {"^", "a", false, true}, {"$", "", true, true}, {"$", "a", false, true}, {"^$", "", true, true}, {"^$", "a", false, false}, {"^a$", "a", true, true}, {"^a$", "aa", false, false},
	{"a$", "ab", false, false}, {"a$", "ba", false, true}, {"a^", "a", false, false}, {"$a", "a", false, false}, {"a^b", "ab", false, false}, {"a$b", "ab", false, false}, {"a$", "a\n", false, false}, {"^a", "\na", false, false},
	{"^^a", "a", true, true}, {"a$$", "a", true, true}, {"a$()$", "a", true, true}, {"()^a", "a", true, true}, {"x*^a", "a", true, true}, {"x*^a", "xa", false, false}, {"a$x*", "a", true, true},
	{"(a$|b)c", "ac", false, false}, {"(a$|b)c", "abc", false, true}, {"(^|a)b", "ab", true, true}, {"(^|a)b", "bb", false, true}, {"(^|a)b", "cb", false, false}, {"b($|a)", "bc", false, false}, {"b($|a)", "cb", false, true},
	// guards in repetitions
	{"(^a)*b", "aab", false, true}, {"(^a)*b", "ab", true, true}, {"(^a){2}", "aa", false, false}, {"(^|a)*", "aa", true, true}, {"(^|a){2}", "a", true, true}, {"(^|a){2}", "aa", true, true}, {"(^|a){3}", "aa", true, true}, {"(^|a){2}", "ba", false, true}, {"(^|a){2}b", "cb", false, false}, {"(^|a){2}b", "aab", true, true}, {"(^|a){2}", "baa", false, true},
	{"($|a){2}", "a", true, true}, {"($|a){2}", "ab", false, true}, {"b($|a){2}", "bac", false, false}, {"b($|a){2}", "cba", false, true}, {"($|a){2}", "", true, true}, {"($|a)*", "ab", false, true}, {"(a$)*", "aa", false, true}, {"(a$)+", "aa", false, true}, {"(a$){2}", "aa", false, false}, {"(^$)*", "", true, true}, {"(^$)+", "", true, true}, {"(^$)+", "a", false, false}, {"(^$)*a", "a", true, true},
	{"(^a|b)+", "abb", true, true}, {"(^a|b)+", "aba", false, true}, {"(a|b$)+", "aab", true, true}, {"(a|b$)+", "aba", false, true}, {"(a|b$)+c", "abc", false, false}, {"^*a", "a", true, true}, {"b^*a", "ba", true, true}, {"b^+a", "ba", false, false}, {"b^?a", "ba", true, true}, {"a${0}b", "ab", true, true},
	// runes of more bytes, and bytes that are no runes
	{"\u00e9", "caf\u00e9", false, true}, {"caf.", "caf\u00e9", true, true}, {"^.{4}$", "caf\u00e9", true, true}, {"[\u00e0-\u00ef]", "\u00e9", true, true}, {"\u00e9*", "\u00e9\u00e9", true, true}, {"\U0001f600.", "\U0001f600\u00df", true, true},
	{".", "\xff", true, true}, {"..", "\xff", false, false}, {"..", "\xe2\x82", true, true}, {".", "\xe2\x82\xac", true, true}, {"...", "\xed\xa0\x80", true, true}, {"...", "\xf0\x9f\x98", true, true}, {"..", "\xc0\x80", true, true}, {"....", "\xf4\x90\x80\x80", true, true},
	{"\ufffd", "\xff", true, true}, {"\ufffd", "\ufffd", true, true}, {"\ufffd{2}", "\xff\ufffd", true, true}, {"\ufffd{2}", "\xc3\xff", true, true}, {"[^\ufffd]", "\xff", false, false}, {"\u00ff", "\xff", false, false}, {"a\ufffd$", "a\xc3", true, true}, {"a$", "a\xc3", false, false}, {"^a", "\xc3a", false, false},
	// escapes
	{"\\d+", "x12", false, true}, {"\\d+", "12", true, true}, {"\\w+", "aZ_09", true, true}, {"\\w", "\u00e9", false, false}, {"\\s{4}", "\t\n\r ", true, true}, {"\\s", "\v", false, false}, {"\\.", ".", true, true}, {"\\.", "a", false, false}, {"a\\|b", "a|b", true, true}, {"\\^\\$", "^$", true, true},
}

func TestMatches(t *testing.T) {
	for _, r := range matches {
		if h, e := hold(t, r.pattern); e != api.OK {
			t.Errorf("%q: error %d", r.pattern, e)
		} else {
			h.is(t, r.text, r.whole, r.part)
		}
	}
}

// long are patterns at the ends of rexp's limits, and behind them.
func long() map[string]api.Errno {
	deep := func(n int) string { return strings.Repeat("(", n) + "a" + strings.Repeat(")", n) }
	return map[string]api.Errno{
		strings.Repeat("a", api.MaxRegex):       api.OK,
		strings.Repeat("a", api.MaxRegex+1):     api.ErrLong,
		strings.Repeat("\xff", api.MaxRegex+1):  api.ErrLong,
		deep(api.MaxDepth):                      api.OK,
		deep(api.MaxDepth + 1):                  api.ErrDeep,
		deep(api.MaxDepth+1) + "*{":             api.ErrRegex,
		"(((a{8}){8}){8}){8}":                   api.ErrMany,
		"(((a{8}){8}){8}){8}" + deep(17):        api.ErrDeep,
		strings.Repeat("(", 17) + "\xff":        api.ErrUtf,
		"((a{7}){8}){8}(a{8}){8}((a{4}){8}){8}": api.OK,
	}
}

func TestErrors(t *testing.T) {
	for _, s := range []string{"*", "a**", "(", ")", "[]", "[", "]", "{2}", "a{9}", "a{2,1}", "a{,2}", "a{2,}", "[b-a]", "[\\d-z]", "\\q", "\\", "a|*", "(a))", "[^]", "a{2}{2}"} {
		if _, e := hold(t, s); e != api.ErrRegex {
			t.Errorf("%q: error %d", s, e)
		}
	}
	for _, s := range []string{"\xff", "a\xc3", "*\xed\xa0\x80"} {
		if _, e := hold(t, s); e != api.ErrUtf {
			t.Errorf("%q: error %d", s, e)
		}
	}
	for s, want := range long() {
		if _, e := hold(t, s); e != want {
			t.Errorf("%q: error %d, not %d", s, e, want)
		}
	}
}

func TestNil(t *testing.T) {
	var m *nfa.Matcher
	for _, s := range []string{"", "a", "\xff", strings.Repeat("a", 1000)} {
		if m.Whole(s) || m.Part(s) {
			t.Errorf("a nil matcher matches %q", s)
		}
	}
}

// TestCounts: repetitions of repetitions match so many runes as they say, not one more or less.
func TestCounts(t *testing.T) {
	t.Parallel()
	for p, want := range map[string][2]int{"((a{8}){8}){8}": {512, 512}, "(a{3,5}){2,4}": {6, 20}, "((a{2}|a{3}){3,4}){5}": {30, 60}, "((a?){8}){8}a{8}": {8, 72}, "(((a{0,2}){2}){3})+a{7}": {7, 1000}, "(a{7}){8}(a{0}){8}": {56, 56}, "a{8}a*": {8, 1000}, "(a|aa){8}": {8, 16}, "(a?a{2,3}){4}": {8, 16}} {
		h, e := hold(t, p)
		if e != api.OK {
			t.Fatalf("%q: error %d", p, e)
		}
		for n := range 600 {
			s := strings.Repeat("a", n)
			h.is(t, s, want[0] <= n && n <= want[1], want[0] <= n)
			h.is(t, "b"+s+"b", false, want[0] <= n)
		}
	}
}

// TestShortPatterns holds all patterns of up to five pieces against the model, and against the library's matcher, for all short texts.
func TestShortPatterns(t *testing.T) {
	t.Parallel()
	texts := rows(4, "a", "b")
	count := 0
	for _, p := range rows(5, "a", "b", "(", ")", "|", "*", "{2}", "?", "^", "$") {
		if h, e := hold(t, p); e == api.OK {
			other := library(t, p)
			for _, s := range texts {
				h.agree(t, other, s)
			}
			count++
		}
	}
	if count < 10000 {
		t.Errorf("%d patterns", count)
	}
}

// second is what the library's matcher says, which knows patterns of the same form.
type second struct{ whole, part *regexp.Regexp }

// library answers the second opinion of a pattern.
func library(t *testing.T, pattern string) second {
	t.Helper()
	part, err := regexp.Compile(pattern)
	if err != nil {
		t.Fatalf("%q: %v", pattern, err)
	}
	return second{regexp.MustCompile(`\A(?:` + pattern + `)\z`), part}
}

// agree holds Whole and Part of a text against the model and the second opinion.
func (h held) agree(t *testing.T, other second, s string) (whole, part bool) {
	t.Helper()
	whole, part = h.check(t, s)
	if w, p := other.whole.MatchString(s), other.part.MatchString(s); w != whole || p != part {
		t.Errorf("%q, %q: the model says %v, %v; the library %v, %v", h.pattern, s, whole, part, w, p)
	}
	return whole, part
}

// TestShortTexts holds some patterns against the model for all texts of up to five pieces, among them broken bytes.
func TestShortTexts(t *testing.T) {
	t.Parallel()
	texts := rows(5, "a", "b", "\n", "\u00e9", "\ufffd", "\xc3", "\xe2\x82", "\xff")
	for _, p := range []string{".", "..", "^...$", "\ufffd+", "[^\ufffd]*", "[\ufffd-\U0010ffff]{2}", "[b-\u00ff]", "a.*b", "(a|.b)+$", "\u00e9.|\ufffda", "^(.|\\n){3,4}$", "[^ab]{2}(a|b)", "((a|^)\ufffd?)*", "(.\ufffd){2}"} {
		h, e := hold(t, p)
		if e != api.OK {
			t.Fatalf("%q: error %d", p, e)
		}
		for _, s := range texts {
			h.check(t, s)
		}
	}
}

// TestEachRune asks for each rune whether it lies in a set, for itself and at its place in a text.
func TestEachRune(t *testing.T) {
	t.Parallel()
	for _, p := range []string{".", "[^b-y]", "\\w", "[\\d\\sA-Z\u00e9-\u00ff\u2000-\ud7ff\ue000-\uf000]", "[^\x01-\U0010fffe]", "[\x00\x02\x04-\x06\u007f-\u0080\u07ff\u0800\uffff-\U00010000]"} {
		h, e := hold(t, p)
		if e != api.OK {
			t.Fatalf("%q: error %d", p, e)
		}
		for r := range rune(utf8.MaxRune + 1) {
			if r > 0x900 && r%251 != 0 && (r+2)%0x800 > 4 {
				continue
			}
			in := lies(r, h.tree[len(h.tree)-1].Set)
			if !utf8.ValidRune(r) {
				continue
			}
			h.is(t, string(r), in, in)
		}
	}
}

// writer writes patterns and texts by chance.
type writer struct{ *rand.Rand }

func (w writer) of(l ...string) string {
	return l[w.Intn(len(l))]
}

// alternative writes an alternative.
func (w writer) alternative(size int) string {
	l := []string{w.row(size)}
	for w.Intn(3) == 0 {
		l = append(l, w.row(size))
	}
	return strings.Join(l, "|")
}

// row writes a row of items.
func (w writer) row(size int) string {
	s := ""
	for range w.Intn(4) {
		s += w.atom(size-1) + w.of("", "", "", "*", "+", "?", "{2}", "{0,2}", "{1,3}", "{0}", "{2,8}")
	}
	return s
}

// atom writes an atom.
func (w writer) atom(size int) string {
	if size > 0 && w.Intn(2) == 0 {
		return "(" + w.alternative(size) + ")"
	}
	return w.of("a", "b", "c", "a", "b", ".", "[ab]", "[^a]", "[a-c]", "[^b\u00e9]", "\\w", "\\s", "\u00e9", "^", "$", "\ufffd", "[\\da]")
}

// text writes a text.
func (w writer) text() string {
	s := ""
	for range w.Intn(14) {
		s += w.of("a", "a", "a", "b", "b", "c", "\u00e9", "\n", "1", "\xff", "\ufffd")
	}
	return s
}

// TestByChance holds patterns by chance against the model and the library's matcher for texts by chance.
func TestByChance(t *testing.T) {
	t.Parallel()
	w := writer{rand.New(rand.NewSource(19))}
	said := map[[2]bool]int{}
	for range 8000 {
		p := w.alternative(4)
		h, e := hold(t, p)
		if e != api.OK {
			said[[2]bool{false, true}]++
			continue
		}
		other := library(t, p)
		for range 20 {
			s := w.text()
			whole, part := h.agree(t, other, s)
			if whole && !part {
				t.Errorf("%q, %q: whole, but not in part", p, s)
			}
			said[[2]bool{true, whole}]++
			if !part {
				said[[2]bool{false, false}]++
			}
		}
	}
	for _, what := range [][2]bool{{true, true}, {true, false}, {false, false}} {
		if said[what] < 5000 {
			t.Errorf("too few of a kind: %v", said)
		}
	}
}

// TestMeanings holds matches of whole trees against those of their parts: what the chapter's table says of rows, alternatives and repetitions.
func TestMeanings(t *testing.T) {
	t.Parallel()
	w := writer{rand.New(rand.NewSource(91))}
	count := 0
	for range 4000 {
		x, y, s := w.alternative(2), w.alternative(2), w.text()
		if len(x)+len(y) > 60 {
			continue
		}
		ask := func(pattern string) (whole, part bool) {
			h, e := hold(t, pattern)
			if e != api.OK {
				t.Fatalf("%q: error %d", pattern, e)
			}
			return h.Whole(s), h.Part(s)
		}
		xWhole, xPart := ask(x)
		yWhole, yPart := ask(y)
		if whole, part := ask(x + "|" + y); whole != (xWhole || yWhole) || part != (xPart || yPart) {
			t.Errorf("%q or %q of %q: %v, %v", x, y, s, whole, part)
		}
		if whole, part := ask("^(" + x + ")$"); whole != xWhole || part != xWhole {
			t.Errorf("%q of %q from its beginning to its end: %v, %v", x, s, whole, part)
		}
		if whole, _ := ask("(.|\\n)*(" + x + ")(.|\\n)*"); whole != xPart {
			t.Errorf("%q of %q between all: %v", x, s, whole)
		}
		if whole, part := ask("(" + x + "){1}"); whole != xWhole || part != xPart {
			t.Errorf("%q once of %q: %v, %v", x, s, whole, part)
		}
		if whole, part := ask("(" + x + "){0}"); whole != (s == "") || !part {
			t.Errorf("%q never of %q: %v, %v", x, s, whole, part)
		}
		count++
	}
	if count < 2000 {
		t.Errorf("%d patterns", count)
	}
}

// TestNoise asks New for whatever bytes.
func TestNoise(t *testing.T) {
	t.Parallel()
	w := writer{rand.New(rand.NewSource(7))}
	for range 100000 {
		p := ""
		for range w.Intn(12) {
			p += w.of("a", "b", "(", ")", "|", "*", "+", "?", "{2}", "{", "}", "[", "]", "^", "-", "$", "\\", "d", "\xff", "\u00e9")
		}
		if h, e := hold(t, p); e == api.OK {
			h.check(t, w.text())
		}
	}
}

// TestTime: none of these takes long, though each does, if a way is tried behind another, or a place looked at anew from each beginning.
func TestTime(t *testing.T) {
	t.Parallel()
	many := strings.Repeat("a", 200000)
	begun := time.Now()
	for p, whole := range map[string]bool{
		"(a*)*b": true, "(a|a)*b": true, "(a|aa)+b": true, "a*a*a*a*a*a*b": true, "(a?){8}(a?){8}a{8}b": false, "(.*)(.*)(.*)(.*)(.*)(.*)b": true, "((((((((a*)*)*)*)*)*)*)*)*b": true,
		"(((a+)+)+)+b": true, "a.*b": true, "(^|a)*b": true, "((a|)*|a*)*b": true, "(a*$)*b": false, "(()*a*()*)*b": true, "aa*[^ac]": true, "(a*b$)+": true,
	} {
		h, e := hold(t, p)
		if e != api.OK {
			t.Fatalf("%q: error %d", p, e)
		}
		h.is(t, many, false, false)
		h.is(t, many+"b", whole, true)
		h.is(t, many+"bc", false, p != "(a*b$)+")
		h.is(t, many+"c", false, false)
	}
	if took := time.Since(begun); took > 60*time.Second {
		t.Errorf("took %v", took)
	}
}

// TestTimeOfGreat: nor do the greatest patterns.
func TestTimeOfGreat(t *testing.T) {
	t.Parallel()
	many := strings.Repeat("ab", 5000)
	begun := time.Now()
	for _, p := range []string{
		"((a?b?){8}){8}((a?b?){8}){7}c", "(((a|b)?){8}){8}(((a|b)*){8}){5}c", "((a*b*){8}){8}c", "((.{8}){8}){8}(.{8}){8}c", "((((a|b){0,8}){0,8}){2}){2}(.{8}){8}c",
		"(([acegikmoqsuwybdfhjlnprtvxzACEGIKMOQSUWY]?){8}){8}(([0-9a!\"#&'+,/:;<>@]?){8}){8}c", "[b13579acegikmoqsuwyACEGIKMOQSUWY!#%')+/:<>@_`\u00e1\u00e3\u00e5\u00e7\u00e9\u00eb\u00ed]*c",
	} {
		h, e := hold(t, p)
		if e != api.OK {
			t.Fatalf("%q: error %d", p, e)
		}
		if h.Part(many) || h.Whole(many) || !h.Part(many+"c") {
			t.Errorf("%q of many", p)
		}
	}
	if took := time.Since(begun); took > 60*time.Second {
		t.Errorf("took %v", took)
	}
}

// TestUnchanged: a matcher that has been asked is the same as one that wasn't, and answers the same again.
func TestUnchanged(t *testing.T) {
	t.Parallel()
	w := writer{rand.New(rand.NewSource(3))}
	for range 300 {
		p := w.alternative(4)
		m, e := nfa.New(p)
		if e != api.OK {
			continue
		}
		fresh, _ := nfa.New(p)
		for range 20 {
			s := w.text()
			whole, part := m.Whole(s), m.Part(s)
			m.Part(w.text())
			m.Whole(w.text())
			if m.Part(s) != part || m.Whole(s) != whole {
				t.Errorf("%q, %q: not the same again", p, s)
			}
		}
		if !reflect.DeepEqual(m, fresh) {
			t.Errorf("%q: the matcher has changed", p)
		}
	}
}

// TestAtOnce asks one matcher from many sides at once.
func TestAtOnce(t *testing.T) {
	t.Parallel()
	h, _ := hold(t, "(a|b.)+c|^(x|\u00e9){2}$")
	texts := rows(4, "a", "b", "c", "x", "\u00e9")
	var all sync.WaitGroup
	for i := range 8 {
		all.Go(func() {
			for j := range texts {
				h.check(t, texts[(j*(i+1))%len(texts)])
			}
		})
	}
	all.Wait()
}

// TestApart: two matchers don't know of one another, whichever was made or asked first.
func TestApart(t *testing.T) {
	l := []string{"a", "b", "a|b", "^a", "", "a*b$"}
	var hs []held
	for _, p := range l {
		h, _ := hold(t, p)
		hs = append(hs, h)
	}
	for _, s := range rows(3, "a", "b") {
		for _, h := range hs {
			h.check(t, s)
		}
	}
	if tree, _ := rexp.Parse("a|b"); !reflect.DeepEqual(tree, hs[2].tree) {
		t.Error("a tree has changed")
	}
}
