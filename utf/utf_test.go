package utf_test

import (
	"math"
	"math/rand"
	"strings"
	"sync"
	"testing"
	"unsafe"

	"garner/utf"
)

// The model: the chapter's words, without the library's calls for UTF-8.

// span is the runes from one to another.
type span struct{ from, to rune }

// scalars are the numbers that are runes of UTF-8.
func scalars() []rune {
	var l []rune
	for r := rune(0); r <= 0x10ffff; r++ {
		if r < 0xd800 || r > 0xdfff {
			l = append(l, r)
		}
	}
	return l
}

// encode answers r in so many bytes, be that too many or r no rune.
func encode(r rune, size int) string {
	last := func(shift int) byte { return 0x80 | byte(r>>shift)&0x3f }
	switch size {
	case 1:
		return string([]byte{byte(r)})
	case 2:
		return string([]byte{0xc0 | byte(r>>6), last(0)})
	case 3:
		return string([]byte{0xe0 | byte(r>>12), last(6), last(0)})
	}
	return string([]byte{0xf0 | byte(r>>18), last(12), last(6), last(0)})
}

// sizeOf answers how many bytes r has in UTF-8.
func sizeOf(r rune) int {
	switch {
	case r < 1<<7:
		return 1
	case r < 1<<11:
		return 2
	case r < 1<<16:
		return 3
	}
	return 4
}

// first answers the rune with which s begins, and its size; false, if the first byte is part of none.
func first(s string) (rune, int, bool) {
	for size := 1; size <= 4 && size <= len(s); size++ {
		r := rune(s[0])
		if size > 1 {
			r &= 0x7f >> size
		}
		for i := 1; i < size; i++ {
			r = r<<6 | rune(s[i]&0x3f)
		}
		if r <= 0x10ffff && (r < 0xd800 || r > 0xdfff) && sizeOf(r) == size && encode(r, size) == s[:size] {
			return r, size, true
		}
	}
	return 0xfffd, 1, false
}

// runesOf answers the runes of s, and whether s is valid.
func runesOf(s string) ([]rune, bool) {
	var l []rune
	valid := true
	for len(s) > 0 {
		r, size, ok := first(s)
		l = append(l, r)
		valid = valid && ok
		s = s[size:]
	}
	return l, valid
}

// wordRunes has the word runes, the chapter's spans laid and taken away one by one.
func wordRunes() map[rune]struct{} {
	m := map[rune]struct{}{}
	for _, l := range []span{{'0', '9'}, {'A', 'Z'}, {'a', 'z'}, {'_', '_'}, {0xc0, 0x10ffff}} {
		for r := l.from; r <= l.to; r++ {
			m[r] = struct{}{}
		}
	}
	for _, l := range []span{{0xd7, 0xd7}, {0xf7, 0xf7}, {0x2000, 0x206f}, {0x3000, 0x303f}, {0xfffd, 0xfffd}, {0xd800, 0xdfff}} {
		for r := l.from; r <= l.to; r++ {
			delete(m, r)
		}
	}
	return m
}

// smallForms has the small form of each rune that has another one.
func smallForms() map[rune]rune {
	m := map[rune]rune{0x178: 0xff}
	for _, l := range []struct {
		span
		on rune
	}{{span{'A', 'Z'}, 32}, {span{0xc0, 0xde}, 32}, {span{0x391, 0x3a9}, 32}, {span{0x410, 0x42f}, 32}, {span{0x400, 0x40f}, 80}} {
		for r := l.from; r <= l.to; r++ {
			m[r] = r + l.on
		}
	}
	delete(m, 0xd7)
	delete(m, 0x3a2)
	return m
}

// folded answers what the model says of Fold(s).
func folded(s string, small map[rune]rune) string {
	var b strings.Builder
	l, _ := runesOf(s)
	for _, r := range l {
		if x, ok := small[r]; ok {
			r = x
		}
		b.WriteString(encode(r, sizeOf(r)))
	}
	return b.String()
}

// checkText holds what is said of s against the model.
func checkText(t *testing.T, s string, small map[rune]rune) {
	t.Helper()
	l, valid := runesOf(s)
	if utf.Valid(s) != valid {
		t.Errorf("Valid(% x): %t", s, !valid)
	}
	if n := utf.Count(s); n != len(l) {
		t.Errorf("Count(% x): %d, not %d", s, n, len(l))
	}
	if f, want := utf.Fold(s), folded(s, small); f != want {
		t.Errorf("Fold(% x): % x, not % x", s, f, want)
	}
}

// edges are bytes at which UTF-8 begins to read otherwise, and letters.
const edges = "\x00AZaz\x7f\x80\x8f\x90\x9f\xa0\xbf\xc0\xc1\xc2\xc3\xd0\xdf\xe0\xe1\xed\xee\xef\xf0\xf1\xf3\xf4\xf5\xf8\xff"

// rows calls f with all rows of n of the edges.
func rows(n int, f func(s string)) {
	row := make([]byte, n)
	var lay func(at int)
	lay = func(at int) {
		if at == n {
			f(string(row))
			return
		}
		for i := range len(edges) {
			row[at] = edges[i]
			lay(at + 1)
		}
	}
	lay(0)
}

// noise answers texts from a fixed seed: pieces that are valid, broken, letters with small forms, single bytes.
func noise(n int) []string {
	r := rand.New(rand.NewSource(6))
	all := scalars()
	pieces := []func() string{
		func() string { x := all[r.Intn(len(all))]; return encode(x, sizeOf(x)) },
		func() string { x := rune(r.Intn(0x500)); return encode(x, sizeOf(x)) },
		func() string { return encode(rune(0xd800+r.Intn(0x800)), 3) },
		func() string { return encode(rune(0x10fff0+r.Intn(0x20)), 4) },
		func() string { x := all[r.Intn(len(all))]; return encode(x, sizeOf(x))[:1+r.Intn(sizeOf(x))] },
		func() string { return encode(rune(r.Intn(0x900)), 2+r.Intn(3)) },
		func() string { return string([]byte{byte(r.Intn(256))}) },
		func() string { return "\ufffd" },
	}
	l := make([]string, n)
	for i := range l {
		kinds := 1 + r.Intn(len(pieces)) // few kinds, so that some texts are valid
		for range r.Intn(40) {
			l[i] += pieces[r.Intn(kinds)]()
		}
	}
	return l
}

// P6.1

func TestValid(t *testing.T) {
	for s, want := range map[string]bool{
		"":                         true,
		"a":                        true,
		"\x00":                     true,
		"\x7f":                     true,
		"\u00e9":                   true,
		"GET /\u4e16\u754c 200":    true,
		"\ufffd":                   true, // the rune itself is no broken byte
		"a\ufffdb":                 true,
		"\xff":                     false,
		"\x80":                     false,
		"\xbf":                     false,
		"a\x80":                    false,
		"\xc0\x80":                 false, // longer forms than needed
		"\xc1\xbf":                 false,
		"\xe0\x80\x80":             false,
		"\xe0\x9f\xbf":             false,
		"\xf0\x80\x80\x80":         false,
		"\xf0\x8f\xbf\xbf":         false,
		"\xf8\x88\x80\x80\x80":     false,
		"\xfc\x84\x80\x80\x80\x80": false,
		"\xc2\x80":                 true, // the shortest ones that are none
		"\xe0\xa0\x80":             true,
		"\xf0\x90\x80\x80":         true,
		"\xed\x9f\xbf":             true, // about the surrogates
		"\xed\xa0\x80":             false,
		"\xed\xbf\xbf":             false,
		"\xee\x80\x80":             true,
		"\xed\xa0\xbd\xed\xb8\x80": false, // a pair of them is none either
		"\xf4\x8f\xbf\xbf":         true,  // the last rune, and what is above it
		"\xf4\x90\x80\x80":         false,
		"\xf5\x80\x80\x80":         false,
		"\xc2":                     false, // bytes that are missing
		"\xe2\x82":                 false,
		"\xf0\x9f\x98":             false,
		"\xef\xbf":                 false,
		"\xc2A":                    false,
		"\xe2\x82A":                false,
		"\xef\xbf\xbe\xef\xbf\xbf": true,
		"\ufffd\xff":               false,
		"\xff\ufffd":               false,
		"ab\ufffd\xef\xbf":         false,
	} {
		if utf.Valid(s) != want {
			t.Errorf("Valid(% x): %t", s, !want)
		}
	}
}

func TestCount(t *testing.T) {
	for s, want := range map[string]int{
		"":                         0,
		"a":                        1,
		"a\u00e9\xff":              3,
		"\x00\x00":                 2,
		"\u4e16\u754c":             2,
		"\U0010ffff":               1,
		"\ufffd":                   1,
		"e\u0301":                  2, // runes, not what they look like
		"\xff\xff\xff":             3,
		"\xe2\x82":                 2,
		"\xe2\x82\xac":             1,
		"\xe2\x82A":                3,
		"\xe2\x82\xe2\x82\xac":     3,
		"\xc0\x80":                 2,
		"\xed\xa0\x80":             3,
		"\xed\xa0\xbd\xed\xb8\x80": 6,
		"\xf4\x90\x80\x80":         4,
		"\xf0\x9f\x98":             3,
		"\xf8\x88\x80\x80\x80":     5,
	} {
		if n := utf.Count(s); n != want {
			t.Errorf("Count(% x): %d, not %d", s, n, want)
		}
	}
}

func TestEachRuneAsText(t *testing.T) {
	small := smallForms()
	for _, r := range scalars() {
		s := encode(r, sizeOf(r))
		want := s
		if x, ok := small[r]; ok {
			want = encode(x, sizeOf(x))
		}
		if !utf.Valid(s) || utf.Count(s) != 1 || utf.Fold(s) != want {
			t.Fatalf("U+%04X: Valid %t, Count %d, Fold % x, not % x", r, utf.Valid(s), utf.Count(s), utf.Fold(s), want)
		}
		for n := 1; n < len(s); n++ {
			if c := s[:n]; utf.Valid(c) || utf.Count(c) != n || utf.Fold(c) != strings.Repeat("\ufffd", n) {
				t.Fatalf("% x of U+%04X: Valid %t, Count %d, Fold % x", c, r, utf.Valid(c), utf.Count(c), utf.Fold(c))
			}
		}
	}
}

func TestLongerFormsSurrogatesAndBeyond(t *testing.T) {
	check := func(s string) {
		if utf.Valid(s) || utf.Count(s) != len(s) || utf.Fold(s) != strings.Repeat("\ufffd", len(s)) {
			t.Fatalf("% x: Valid %t, Count %d, Fold % x", s, utf.Valid(s), utf.Count(s), utf.Fold(s))
		}
	}
	for r := rune(0); r < 1<<16; r++ {
		for size := sizeOf(r) + 1; size <= 4; size++ {
			check(encode(r, size))
		}
	}
	for r := rune(0xd800); r <= 0xdfff; r++ {
		check(encode(r, 3))
	}
	for r := rune(0x110000); r < 1<<21; r++ {
		check(encode(r, 4))
	}
}

func TestShortRows(t *testing.T) {
	small := smallForms()
	for n := range 5 {
		rows(n, func(s string) { checkText(t, s, small) })
	}
}

func TestNoise(t *testing.T) {
	small := smallForms()
	valid := 0
	for _, s := range noise(20000) {
		checkText(t, s, small)
		if _, ok := runesOf(s); ok {
			valid++
		}
	}
	if valid < 1000 || valid > 19000 {
		t.Errorf("%d of the texts are valid: too few of a kind", valid)
	}
}

func TestLongTexts(t *testing.T) {
	const n = 1 << 20
	for _, c := range []struct {
		part, small string
		count       int
		valid       bool
	}{
		{"A", "a", 1, true},
		{"\u00c4", "\u00e4", 1, true},
		{"\u4e16", "\u4e16", 1, true},
		{"\U0001f600", "\U0001f600", 1, true},
		{"\xff", "\ufffd", 1, false},
		{"\xe2\x82", "\ufffd\ufffd", 2, false},
	} {
		s := strings.Repeat(c.part, n)
		if utf.Valid(s) != c.valid || utf.Count(s) != n*c.count || utf.Fold(s) != strings.Repeat(c.small, n) {
			t.Errorf("% x, many times: Valid %t, Count %d", c.part, utf.Valid(s), utf.Count(s))
		}
	}
	s := strings.Repeat("a", n)
	if !utf.Valid(s+"\u00e9") || utf.Valid(s+"\xc3") || utf.Valid("\xc3"+s) {
		t.Error("a fault at an end of a long text")
	}
}

// P6.2

// numbers calls f with all runes and what stands about them, with the ends, and with numbers of 32 bits far from one another.
func numbers(f func(r rune)) {
	for r := rune(-0x20000); r <= 0x120000; r++ {
		f(r)
	}
	for r := int64(math.MinInt32); r <= math.MaxInt32; r += 9973 {
		f(rune(r))
	}
	for k := range 32 {
		for d := int32(-2); d <= 2; d++ {
			f(int32(1)<<k + d)
			f(-(int32(1) << k) + d)
		}
	}
}

func TestWord(t *testing.T) {
	for _, r := range "09AZaz_\u00c0\u00d6\u00d8\u00e9\u00f6\u00f8\u00ff\u0100\u0416\u03a2\u1fff\u2070\u2fff\u3040\u4e16\ud7ff\ue000\ufffc\ufffe\uffff\U00010000\U0010ffff" {
		if !utf.Word(r) {
			t.Errorf("Word(U+%04X): false", r)
		}
	}
	for _, r := range []rune{0, ' ', '/', ':', '@', '[', '^', '`', '{', '-', '.', 0x7f, 0x80, 0xa0, 0xaa, 0xb5, 0xba, 0xbf, 0xd7, 0xf7,
		0x2000, 0x2014, 0x206f, 0x3000, 0x3001, 0x303f, 0xfffd, 0xd800, 0xdbff, 0xdc00, 0xdfff, 0x110000, -1, -'a', math.MinInt32, math.MaxInt32} {
		if utf.Word(r) {
			t.Errorf("Word(%#x): true", r)
		}
	}
}

func TestWordOfEachNumber(t *testing.T) {
	words := wordRunes()
	numbers(func(r rune) {
		if _, want := words[r]; utf.Word(r) != want {
			t.Errorf("Word(%#x): %t", r, !want)
		}
	})
}

func TestSmall(t *testing.T) {
	for _, c := range []struct{ r, want rune }{
		{'A', 'a'}, {'Z', 'z'}, {'@', '@'}, {'[', '['}, {'a', 'a'}, {'z', 'z'}, {'0', '0'}, {'_', '_'},
		{0xc4, 0xe4}, {0xc0, 0xe0}, {0xde, 0xfe}, {0xbf, 0xbf}, {0xdf, 0xdf}, {0xd6, 0xf6}, {0xd7, 0xd7}, {0xd8, 0xf8}, {0xe4, 0xe4}, {0xff, 0xff},
		{0x177, 0x177}, {0x178, 0xff}, {0x179, 0x179},
		{0x390, 0x390}, {0x391, 0x3b1}, {0x3a1, 0x3c1}, {0x3a2, 0x3a2}, {0x3a3, 0x3c3}, {0x3a9, 0x3c9}, {0x3aa, 0x3aa}, {0x3b1, 0x3b1},
		{0x3ff, 0x3ff}, {0x400, 0x450}, {0x401, 0x451}, {0x40f, 0x45f}, {0x410, 0x430}, {0x42f, 0x44f}, {0x430, 0x430}, {0x450, 0x450},
		{0x100, 0x100}, {0x130, 0x130}, {0x1e9e, 0x1e9e}, {0x2126, 0x2126}, {0x212a, 0x212a}, {0xff21, 0xff21}, {0x10400, 0x10400}, // case, but not the chapter's
		{0xfffd, 0xfffd}, {0xd800, 0xd800}, {0x110000, 0x110000}, {0, 0}, {-1, -1}, {-'A', -'A'}, {math.MinInt32, math.MinInt32}, {math.MaxInt32, math.MaxInt32},
	} {
		if r := utf.Small(c.r); r != c.want {
			t.Errorf("Small(%#x): %#x, not %#x", c.r, r, c.want)
		}
	}
}

func TestSmallOfEachNumber(t *testing.T) {
	small := smallForms()
	numbers(func(r rune) {
		want, ok := small[r]
		if !ok {
			want = r
		}
		if x := utf.Small(r); x != want {
			t.Errorf("Small(%#x): %#x, not %#x", r, x, want)
		}
	})
}

// P6.3

func TestFold(t *testing.T) {
	for s, want := range map[string]string{
		"":                         "",
		"abc":                      "abc",
		"ABC-\u03a9\xff":           "abc-\u03c9\ufffd",
		"GET /Api_V1":              "get /api_v1",
		"\x00A\x00":                "\x00a\x00",
		"\u00c4\u00d6\u00dc\u00df": "\u00e4\u00f6\u00fc\u00df",
		"\u0178\u00d7\u03a2":       "\u00ff\u00d7\u03a2",
		"\u041f\u0401\u042f":       "\u043f\u0451\u044f",
		"\ufffdA":                  "\ufffda",
		"\xe2\x82A":                "\ufffd\ufffda",
		"\xe2\x82\xacA":            "\u20aca",
		"\xed\xa0\x80":             "\ufffd\ufffd\ufffd",
		"\xc0\x80":                 "\ufffd\ufffd",
		"\xc1\x81":                 "\ufffd\ufffd", // an A in too many bytes is none
		"A\xf4\x90\x80\x80Z":       "a\ufffd\ufffd\ufffd\ufffdz",
		"\xc3":                     "\ufffd",
		"\U0010ffff":               "\U0010ffff",
	} {
		if f := utf.Fold(s); f != want {
			t.Errorf("Fold(% x): % x, not % x", s, f, want)
		}
	}
}

func TestFoldIsValidAndFolded(t *testing.T) {
	for _, s := range noise(5000) {
		f := utf.Fold(s)
		if !utf.Valid(f) || utf.Fold(f) != f || utf.Count(f) != utf.Count(s) {
			t.Errorf("Fold(% x): % x", s, f)
		}
	}
}

// The rules that hold everywhere.

func TestTextsStayAndAnswersAreNew(t *testing.T) {
	for _, s := range []string{"abc", "ABC", "\u00e4\u4e16", "\xff\xfe", "a\ufffd"} {
		given := []byte(s)
		view := unsafe.String(&given[0], len(given))
		utf.Valid(view)
		utf.Count(view)
		f, again := utf.Fold(view), utf.Fold(view)
		if string(given) != s {
			t.Errorf("% x was changed to % x", s, given)
		}
		if unsafe.StringData(f) == unsafe.StringData(again) {
			t.Errorf("two answers of % x share memory", s)
		}
		want := folded(s, smallForms())
		clear(given)
		if f != want {
			t.Errorf("Fold(% x) changed with its text", s)
		}
	}
}

func TestManyAtOnce(t *testing.T) {
	small := smallForms()
	texts := noise(500)
	var all sync.WaitGroup
	for range 8 {
		all.Go(func() {
			for _, s := range texts {
				checkText(t, s, small)
			}
		})
	}
	all.Wait()
}
