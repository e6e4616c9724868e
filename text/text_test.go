package text_test

import (
	"math/rand"
	"slices"
	"strings"
	"sync"
	"testing"
	"unsafe"

	"garner/api"
	"garner/text"
	"garner/utf"
)

// The model: the chapter's words, row by row of a text's runes.

// isRun tells whether the runes from i on and ahead of j are a row of word runes that no word rune stands next to.
func isRun(l []rune, i, j int) bool {
	if i > 0 && utf.Word(l[i-1]) || j < len(l) && utf.Word(l[j]) {
		return false
	}
	return !slices.ContainsFunc(l[i:j], func(r rune) bool { return !utf.Word(r) })
}

// wordOf answers the small forms of the first 32 of the runes of a run.
func wordOf(run []rune) string {
	w := ""
	for i, r := range run {
		if i < 32 {
			w += string(utf.Small(r))
		}
	}
	return w
}

// wordsOf answers the words of the runs of s, and those of its inner runs, in order, each as often as it stands there.
func wordsOf(s string) (all, inner []string) {
	l := []rune(s) // as a range tells them
	for i := range l {
		for j := i + 1; j <= len(l); j++ {
			if !isRun(l, i, j) {
				continue
			}
			all = append(all, wordOf(l[i:j]))
			if i > 0 && j < len(l) {
				inner = append(inner, wordOf(l[i:j]))
			}
		}
	}
	return all, inner
}

// setOf answers each text of l once, in the order of their bytes: it lays one text behind the other where it belongs.
func setOf(l []string) []string {
	var set []string
	for _, w := range l {
		at := 0
		for at < len(set) && set[at] < w {
			at++
		}
		if at == len(set) || set[at] != w {
			set = slices.Insert(set, at, w)
		}
	}
	return set
}

// stands tells whether part stands in line, place by place.
func stands(line, part string) bool {
	for i := 0; i+len(part) <= len(line); i++ {
		if line[i:i+len(part)] == part {
			return true
		}
	}
	return false
}

// checkWords holds what is said of s against lists.
func checkWords(t *testing.T, s string, words, set, inner []string) {
	t.Helper()
	if l := text.Words(s); !slices.Equal(l, words) {
		t.Errorf("Words(%q): %q, not %q", s, l, words)
	}
	if l := text.Set(s); !slices.Equal(l, set) {
		t.Errorf("Set(%q): %q, not %q", s, l, set)
	}
	if l := text.Inner(s); !slices.Equal(l, inner) {
		t.Errorf("Inner(%q): %q, not %q", s, l, inner)
	}
}

// checkText holds what is said of s against the model.
func checkText(t *testing.T, s string) {
	t.Helper()
	all, inner := wordsOf(s)
	checkWords(t, s, all, setOf(all), setOf(inner))
}

// checkInner holds P7.4 for a line and a part that stands in it.
func checkInner(t *testing.T, line, part string) {
	t.Helper()
	set := text.Set(line)
	for _, w := range text.Inner(part) {
		if !slices.Contains(set, w) {
			t.Errorf("%q of Inner(%q) is none of Set(%q): %q", w, part, line, set)
		}
	}
}

// rows calls f with all texts of up to n of the pieces.
func rows(n int, pieces []string, f func(s string)) {
	var lay func(s string, left int)
	lay = func(s string, left int) {
		f(s)
		if left > 0 {
			for _, p := range pieces {
				lay(s+p, left-1)
			}
		}
	}
	lay("", n)
}

// edges are word runes and others, small and capital, of one byte and of more, and bytes that are part of no rune.
var edges = []string{"a", "B", "b", "7", "_", " ", "-", "\u00d7", "\u00c4", "\u2014", "\ufffd", "\xff", "\xc3", "\U0001f600"}

// noise answers texts from a fixed seed: pieces of lines, runs about as long as a word may be, runes about the spans' ends, single bytes.
func noise(n int) []string {
	r := rand.New(rand.NewSource(7))
	ends := []rune{'/', '0', '9', ':', '@', 'A', 'Z', '[', '^', '_', '`', 'a', 'z', '{', 0xbf, 0xc0, 0xd6, 0xd7, 0xd8, 0xf7, 0x178, 0x3a2, 0x401, 0x1fff, 0x2000, 0x206f, 0x2070, 0x2fff, 0x3000, 0x303f, 0x3040, 0xfffd, 0xffff, 0x10000, 0x10ffff}
	lines := strings.Fields("GET get /api/v1 code=500 user_id=7 \u00c9t\u00e9 \u041c\u0438\u0440 err: [x] =")
	pieces := []func() string{
		func() string { return lines[r.Intn(len(lines))] },
		func() string { return strings.Repeat(" ", 1+r.Intn(2)) },
		func() string { return string(ends[r.Intn(len(ends))]) },
		func() string { return strings.Repeat(string(ends[r.Intn(len(ends))]), 30+r.Intn(5)) },
		func() string { return string([]byte{byte(r.Intn(256))}) },
	}
	l := make([]string, n)
	for i := range l {
		for range r.Intn(12) {
			l[i] += pieces[r.Intn(len(pieces))]()
		}
	}
	return l
}

// letters answers a run of n runes, each other than those next to it, from the capital Alpha on.
func letters(n int) string {
	l := make([]rune, n)
	for i := range l {
		l[i] = rune(0x391 + i%16)
	}
	return string(l)
}

// P7.1, P7.2

func TestLines(t *testing.T) {
	for _, c := range []struct {
		s                 string
		words, set, inner []string
	}{
		{"", nil, nil, nil},
		{" ", nil, nil, nil},
		{"-./:=\xff\ufffd", nil, nil, nil},
		{"err", []string{"err"}, []string{"err"}, nil},
		{"err ", []string{"err"}, []string{"err"}, nil},
		{" err", []string{"err"}, []string{"err"}, nil},
		{" err ", []string{"err"}, []string{"err"}, []string{"err"}},
		{"a b", []string{"a", "b"}, []string{"a", "b"}, nil},
		{"a b ", []string{"a", "b"}, []string{"a", "b"}, []string{"b"}},
		{"GET /api/v1 GET", []string{"get", "api", "v1", "get"}, []string{"api", "get", "v1"}, []string{"api", "v1"}},
		{"x=Foo bar", []string{"x", "foo", "bar"}, []string{"bar", "foo", "x"}, []string{"foo"}},
		{"get GET Get gEt", []string{"get", "get", "get", "get"}, []string{"get"}, []string{"get"}},
		{"b a b a b", []string{"b", "a", "b", "a", "b"}, []string{"a", "b"}, []string{"a", "b"}},
		{"user_id=7;_;__", []string{"user_id", "7", "_", "__"}, []string{"7", "_", "__", "user_id"}, []string{"7", "_"}},
		{"ab a abc b", []string{"ab", "a", "abc", "b"}, []string{"a", "ab", "abc", "b"}, []string{"a", "abc"}},
		{"a Z _ 9 \u00e9 \U00010000 \uffff", []string{"a", "z", "_", "9", "\u00e9", "\U00010000", "\uffff"}, []string{"9", "_", "a", "z", "\u00e9", "\uffff", "\U00010000"}, []string{"9", "_", "z", "\u00e9", "\U00010000"}},
		{"\u00c9t\u00e9.", []string{"\u00e9t\u00e9"}, []string{"\u00e9t\u00e9"}, nil},
		{"\u041c\u0418\u0420 \u0401", []string{"\u043c\u0438\u0440", "\u0451"}, []string{"\u043c\u0438\u0440", "\u0451"}, nil},
		{"3\u00d74\u00f75", []string{"3", "4", "5"}, []string{"3", "4", "5"}, []string{"4"}},
		{"a\u2014b\u3000c\u2070d", []string{"a", "b", "c\u2070d"}, []string{"a", "b", "c\u2070d"}, []string{"b"}},
		{"\ufffda\ufffd", []string{"a"}, []string{"a"}, []string{"a"}},
		{"a\xffb", []string{"a", "b"}, []string{"a", "b"}, nil},
		{"\xffa\xff", []string{"a"}, []string{"a"}, []string{"a"}}, // a broken byte is a rune of the text
		{"a\xc3", []string{"a"}, []string{"a"}, nil},
		{"\xc3a", []string{"a"}, []string{"a"}, nil},
		{"\xa9a\xc3", []string{"a"}, []string{"a"}, []string{"a"}}, // their bytes aren't put together
		{"a\xed\xa0\x80b", []string{"a", "b"}, []string{"a", "b"}, nil},
		{"a\xc1\x81b", []string{"a", "b"}, []string{"a", "b"}, nil},
		{"a\x00b\nc", []string{"a", "b", "c"}, []string{"a", "b", "c"}, []string{"b"}},
	} {
		checkWords(t, c.s, c.words, c.set, c.inner)
	}
}

func TestLongRuns(t *testing.T) {
	for _, n := range []int{1, 31, 32, 33, 40, 64, 65, 1024} {
		run := letters(n)
		word := utf.Fold(letters(min(n, 32)))
		for _, c := range []struct {
			s     string
			words []string
			inner []string
		}{
			{run, []string{word}, nil},
			{"-" + run, []string{word}, nil},
			{run + "-", []string{word}, nil},
			{"-" + run + "-", []string{word}, []string{word}},
			{run + "-b", []string{word, "b"}, nil}, // what is left of the run is no word, the next one counts anew
			{"b-" + run + "-" + run + "-b", []string{"b", word, word, "b"}, []string{word}},
		} {
			checkWords(t, c.s, c.words, setOf(c.words), c.inner)
		}
	}
	if l := text.Words(strings.Repeat("a", 40)); len(l) != 1 || l[0] != strings.Repeat("a", 32) {
		t.Errorf("a run of 40 letters a: %q", l)
	}
	if l := text.Words(strings.Repeat("\u4e16", 40)); len(l) != 1 || l[0] != strings.Repeat("\u4e16", 32) {
		t.Errorf("a run of 40 runes of three bytes: %q", l)
	}
}

func TestRunsThatBeginAlike(t *testing.T) {
	a := strings.Repeat("a", 32)
	checkWords(t, "."+a+"b "+a+"c "+strings.ToUpper(a)+" "+a[1:]+".", []string{a, a, a, a[1:]}, []string{a[1:], a}, []string{a[1:], a})
}

func TestEachRuneInALine(t *testing.T) {
	for r := rune(0); r <= 0x10ffff; r++ {
		s := "-x" + string(r) + "y-"
		want := []string{"x", "y"}
		if utf.Word(r) {
			want = []string{"x" + string(utf.Small(r)) + "y"}
		}
		if !slices.Equal(text.Words(s), want) || !slices.Equal(text.Set(s), want) || !slices.Equal(text.Inner(s), want) {
			t.Fatalf("%q: Words %q, Set %q, Inner %q, not %q", s, text.Words(s), text.Set(s), text.Inner(s), want)
		}
	}
}

func TestShortRows(t *testing.T) {
	rows(5, edges, func(s string) { checkText(t, s) })
}

func TestNoise(t *testing.T) {
	for _, s := range noise(3000) {
		checkText(t, s)
	}
}

func TestLongTexts(t *testing.T) {
	const n = 1 << 18
	want := make([]string, 0, 2*n)
	for range n {
		want = append(want, "b", "\u00e4")
	}
	checkWords(t, strings.Repeat("B \u00c4-", n), want, []string{"b", "\u00e4"}, []string{"b", "\u00e4"})
	checkWords(t, strings.Repeat("-", n), nil, nil, nil)
	checkWords(t, strings.Repeat("\xff", n), nil, nil, nil)
	a := strings.Repeat("a", 32)
	checkWords(t, strings.Repeat("A", n), []string{a}, []string{a}, nil)
}

// P7.3

func TestHas(t *testing.T) {
	for _, c := range []struct {
		line, part string
		want       bool
	}{
		{"abc", "bc", true},
		{"abc", "ab", true},
		{"abc", "b", true},
		{"abc", "abc", true},
		{"abc", "", true},
		{"", "", true},
		{"", "a", false},
		{"abc", "cb", false},
		{"abc", "ac", false}, // not one behind the other
		{"abc", "abcd", false},
		{"abc", "BC", false}, // bytes, not small forms
		{"ABC", "bc", false},
		{"aab", "ab", true},
		{"ababac", "abac", true},
		{"\u00e9", "\xa9", true}, // bytes, not runes
		{"\u00e9", "\xc3", true},
		{"\xff", "\ufffd", false},
		{"\ufffd", "\xff", false},
		{"a\xffb", "\xffb", true},
		{"a\x00b", "\x00b", true},
		{"code=500 err", "=500 ", true},
	} {
		if text.Has(c.line, c.part) != c.want {
			t.Errorf("Has(%q, %q): %t", c.line, c.part, !c.want)
		}
	}
}

func TestHasOfShortRows(t *testing.T) {
	var parts []string
	rows(3, []string{"a", "B", "\xff"}, func(s string) { parts = append(parts, s) })
	rows(6, []string{"a", "B", "\xff"}, func(line string) {
		for _, part := range parts {
			if want := stands(line, part); text.Has(line, part) != want {
				t.Errorf("Has(%q, %q): %t", line, part, !want)
			}
		}
	})
}

func TestHasOfLongTexts(t *testing.T) {
	for _, n := range []int{15, 16, 31, 32, 63, 64, 65, 1 << 10, 1 << 20} {
		a := strings.Repeat("a", n)
		line := a + "b" + a
		if !text.Has(line, a+"b") || !text.Has(line, "b"+a) || !text.Has(line, line) || text.Has(line, "b"+a+"a") || text.Has(line, a+"c") || text.Has(a, line) {
			t.Errorf("Has of a line with %d letters a on both sides", n)
		}
	}
}

// P7.4

func TestInnerWordsStandInLines(t *testing.T) {
	pieces := []string{"a", "B", " ", "\u00c4", "\u2014", "\ufffd"}
	rows(5, pieces, func(line string) {
		for i := range line {
			for j := i; j <= len(line); j++ {
				if part := line[i:j]; utf.Valid(part) {
					checkInner(t, line, part)
				}
			}
		}
	})
}

func TestInnerWordsOfNoise(t *testing.T) {
	r := rand.New(rand.NewSource(74))
	held := 0
	for _, line := range noise(20000) {
		if !utf.Valid(line) {
			continue
		}
		l := []rune(line)
		for range 8 {
			from := r.Intn(len(l) + 1)
			part := string(l[from : from+r.Intn(len(l)-from+1)])
			checkInner(t, line, part)
			held += len(text.Inner(part))
		}
	}
	if held < 10000 {
		t.Errorf("parts with %d inner words in all: too few", held)
	}
}

func TestWordsAtAnEndMayBeLonger(t *testing.T) {
	line, part := "xerr orx", "err or"
	if !text.Has(line, part) || len(text.Inner(part)) != 0 {
		t.Errorf("Inner(%q): %q, and they are no words of %q", part, text.Inner(part), line)
	}
}

// P7.5, and the rules that hold everywhere.

// inside tells whether the bytes of w lie among those of s.
func inside(w, s string) bool {
	p, q := uintptr(unsafe.Pointer(unsafe.StringData(w))), uintptr(unsafe.Pointer(unsafe.StringData(s)))
	return q <= p && p < q+uintptr(len(s))
}

func TestAnswersAreNewMemory(t *testing.T) {
	for _, s := range []string{"get", "get api get", " a ", "GET /Api GET", " \u00e9t\u00e9 ", "-" + strings.Repeat("a", 40) + "-", "a\xffb c d"} {
		all, inner := wordsOf(s)
		given := []byte(s)
		view := unsafe.String(&given[0], len(given))
		words, set, in := text.Words(view), text.Set(view), text.Inner(view)
		for _, w := range slices.Concat(words, set, in) {
			if inside(w, view) {
				t.Errorf("%q of %q lies in it", w, s)
			}
		}
		if string(given) != s {
			t.Errorf("%q was changed to %q", s, given)
		}
		clear(given)
		if !slices.Equal(words, all) || !slices.Equal(set, setOf(all)) || !slices.Equal(in, setOf(inner)) {
			t.Errorf("answers of %q changed with it: %q, %q, %q", s, words, set, in)
		}
	}
}

func TestListsShareNothing(t *testing.T) {
	const s = "b a b - c d a b"
	all, inner := wordsOf(s)
	for _, spoil := range []func() []string{
		func() []string { return text.Words(s) },
		func() []string { return text.Set(s) },
		func() []string { return text.Inner(s) },
	} {
		l := spoil()
		clear(l[:cap(l)])
		checkWords(t, s, all, setOf(all), setOf(inner))
	}
	l, again := text.Set(s), text.Set(s)
	clear(l[:cap(l)])
	if !slices.Equal(again, setOf(all)) {
		t.Errorf("two answers share memory: %q", again)
	}
}

func TestLimitIsThatOfTheDocument(t *testing.T) {
	if api.MaxWord != 32 {
		t.Errorf("MaxWord: %d", api.MaxWord)
	}
}

func TestManyAtOnce(t *testing.T) {
	texts := noise(200)
	var all sync.WaitGroup
	for range 8 {
		all.Go(func() {
			for _, s := range texts {
				checkText(t, s)
			}
		})
	}
	all.Wait()
}
