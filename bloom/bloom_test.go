package bloom_test

import (
	"bytes"
	"fmt"
	"hash/fnv"
	"math/big"
	"math/rand"
	"slices"
	"strings"
	"sync"
	"syscall"
	"testing"

	"garner/bloom"
)

// The model: the chapter's words, in numbers that have no end.

var (
	bit32 = new(big.Int).Lsh(big.NewInt(1), 32)
	bit64 = new(big.Int).Lsh(big.NewInt(1), 64)
)

// hashOf answers the hash of s.
func hashOf(s string) uint64 {
	h, _ := new(big.Int).SetString("cbf29ce484222325", 16)
	times, _ := new(big.Int).SetString("100000001b3", 16)
	for _, x := range []byte(s) {
		h.Xor(h, big.NewInt(int64(x)))
		h.Mul(h, times)
		h.Mod(h, bit64)
	}
	return h.Uint64()
}

// placesOf answers the places of s in a filter of m bits.
func placesOf(s string, m int) []int {
	upper, lower := new(big.Int).DivMod(new(big.Int).SetUint64(hashOf(s)), bit32, new(big.Int))
	lower.SetBit(lower, 0, 1)
	var l []int
	for range 3 {
		l = append(l, int(new(big.Int).Mod(upper, big.NewInt(int64(m))).Int64()))
		upper.Add(upper, lower)
	}
	return l
}

// bytesOf answers how many bytes a filter of n texts has.
func bytesOf(n int) int {
	parts := 0
	for parts*64 < 10*n {
		parts++
	}
	return 8 * parts
}

// with answers n bytes in which just the bits at the places are 1.
func with(n int, places ...int) []byte {
	filter := make([]byte, n)
	for i := range 8 * n {
		if slices.Contains(places, i) {
			filter[i/8] += []byte{1, 2, 4, 8, 16, 32, 64, 128}[i%8]
		}
	}
	return filter
}

// without answers n bytes in which just the bits at the places are 0.
func without(n int, places ...int) []byte {
	filter := with(n, places...)
	for i := range filter {
		filter[i] = 255 - filter[i]
	}
	return filter
}

// filterOf answers the filter of words.
func filterOf(words ...string) []byte {
	texts := map[string]bool{}
	for _, w := range words {
		texts[w] = true
	}
	n := bytesOf(len(texts))
	var places []int
	for w := range texts {
		places = append(places, placesOf(w, 8*n)...)
	}
	return with(n, places...)
}

// hasIn tells whether the bits at all places of word are 1.
func hasIn(filter []byte, word string) bool {
	if len(filter) == 0 {
		return false
	}
	for _, i := range placesOf(word, 8*len(filter)) {
		if fmt.Sprintf("%08b", filter[i/8])[7-i%8] == '0' {
			return false
		}
	}
	return true
}

// brief answers a text that tells words without telling all of many.
func brief(words []string) string {
	if len(words) > 8 {
		return fmt.Sprintf("%d words from %q on", len(words), words[:4])
	}
	return fmt.Sprintf("%q", words)
}

// checkMake holds Make(words...) against the model, and each of the words against its answer.
func checkMake(t *testing.T, words ...string) {
	t.Helper()
	filter := bloom.Make(words...)
	if want := filterOf(words...); !bytes.Equal(filter, want) {
		t.Errorf("Make of %s: % x, not % x", brief(words), filter, want)
	}
	for _, w := range words {
		if !bloom.Has(filter, w) {
			t.Errorf("%q isn't in the filter of %s", w, brief(words))
		}
	}
}

// checkHas holds Has(filter, word) against what is wanted.
func checkHas(t *testing.T, filter []byte, word string, want bool) {
	t.Helper()
	if got := bloom.Has(filter, word); got != want {
		t.Errorf("Has(% x, %q): %v", filter, word, got)
	}
}

// numbered answers n words, each another one.
func numbered(n int) []string {
	l := make([]string, n)
	for i := range l {
		l[i] = fmt.Sprintf("word%d", i)
	}
	return l
}

// strange are texts at an edge: without a byte, of bytes that are no UTF-8, alike but for an end.
var strange = []string{"", "\x00", "\x00\x00", "\xff", "\xc3", "\u00e9", "\u00e9\xff", "\ufffd", "\U0001f600", "a", "A", "a ", " a", "aa", strings.Repeat("\xff", 100), strings.Repeat("a", 32), strings.Repeat("a", 33)}

// noise answers n texts of any bytes, from a seed.
func noise(seed int64, n int) []string {
	r := rand.New(rand.NewSource(seed))
	l := make([]string, n)
	for i := range l {
		b := make([]byte, r.Intn(12))
		r.Read(b)
		l[i] = string(b)
	}
	return l
}

// P12.1: Hash

func TestHashOfKnownTexts(t *testing.T) {
	for _, c := range []struct {
		s    string
		want uint64
	}{
		{"", 0xcbf29ce484222325},
		{"\x00", 0xaf63bd4c8601b7df},
		{"a", 0xaf63dc4c8601ec8c},
		{"b", 0xaf63df4c8601f1a5},
		{"foobar", 0x85944171f73967e8},
		{"hello", 0xa430d84680aabd0b},
		{"chongo was here!\n", 0x46810940eff5f915},
		{"\xff\x00\x00\x01", 0x6961196491cc682d},
	} {
		if got := bloom.Hash(c.s); got != c.want {
			t.Errorf("Hash(%q): %x, not %x", c.s, got, c.want)
		}
	}
}

func TestHashByItsWords(t *testing.T) {
	for _, s := range slices.Concat(strange, noise(1, 2000), numbered(200)) {
		if got, want := bloom.Hash(s), hashOf(s); got != want {
			t.Errorf("Hash(%q): %x, not %x", s, got, want)
		}
	}
}

// checkHash holds Hash(s) against the library's, which takes long texts too.
func checkHash(t *testing.T, s string) {
	t.Helper()
	h := fnv.New64a()
	h.Write([]byte(s))
	if got, want := bloom.Hash(s), h.Sum64(); got != want {
		t.Errorf("Hash of %d bytes from %q on: %x, not %x", len(s), s[:min(len(s), 9)], got, want)
	}
}

func TestHashOfShortTexts(t *testing.T) {
	for x := range 256 {
		checkHash(t, string([]byte{byte(x)}))
		for y := range 256 {
			checkHash(t, string([]byte{byte(x), byte(y)}))
		}
	}
}

func TestHashOfLongTexts(t *testing.T) {
	r := rand.New(rand.NewSource(2))
	for _, n := range []int{31, 32, 33, 255, 256, 257, 1024, 65535, 65536, 65537, 1 << 22} {
		b := make([]byte, n)
		checkHash(t, string(b))
		r.Read(b)
		checkHash(t, string(b))
	}
}

// P12.1: Make

func TestMakeOfKnownWords(t *testing.T) {
	for _, c := range []struct {
		words []string
		want  string
	}{
		{nil, ""},
		{[]string{""}, "00 02 00 00 10 40 00 00"},
		{[]string{"a"}, "00 10 00 02 40 00 00 00"},
		{[]string{"b"}, "00 10 40 00 00 00 02 00"},
		{[]string{"a", "b"}, "00 10 40 02 40 00 02 00"},
	} {
		if got := fmt.Sprintf("% x", bloom.Make(c.words...)); got != c.want {
			t.Errorf("Make of %q: %s, not %s", c.words, got, c.want)
		}
	}
}

func TestSizes(t *testing.T) {
	for _, c := range []struct{ n, want int }{
		{0, 0}, {1, 8}, {2, 8}, {6, 8}, {7, 16}, {12, 16}, {13, 24}, {19, 24}, {20, 32}, {25, 32}, {26, 40},
		{32, 40}, {33, 48}, {64, 80}, {65, 88}, {128, 160}, {129, 168}, {6400, 8000}, {6401, 8008}, {100000, 125000},
	} {
		if got := len(bloom.Make(numbered(c.n)...)); got != c.want {
			t.Errorf("the filter of %d words has %d bytes, not %d", c.n, got, c.want)
		}
	}
	for n := range 700 {
		if got := len(bloom.Make(numbered(n)...)); got != bytesOf(n) {
			t.Errorf("the filter of %d words has %d bytes, not %d", n, got, bytesOf(n))
		}
	}
}

func TestMakeByItsWords(t *testing.T) {
	checkMake(t)
	checkMake(t, strange...)
	for _, s := range slices.Concat(strange, noise(3, 300)) {
		checkMake(t, s)
	}
	for n := range 80 {
		checkMake(t, numbered(n)...)
		checkMake(t, noise(int64(n), n)...)
	}
	for n := range 16 {
		checkMake(t, noise(int64(n), 30*n)...)
	}
}

func TestEachWordIsCountedOnce(t *testing.T) {
	for _, c := range []struct{ words, once []string }{
		{[]string{"", ""}, []string{""}},
		{[]string{"a", "a"}, []string{"a"}},
		{[]string{"a", "b", "a"}, []string{"a", "b"}},
		{[]string{"b", "a", "b", "a", "a", "b", "b"}, []string{"a", "b"}},
		{slices.Repeat(numbered(6), 50), numbered(6)},
		{slices.Repeat([]string{"", "x", "\xff"}, 1000), []string{"", "x", "\xff"}},
		{append(numbered(7), "word6"), numbered(7)},
	} {
		if got, want := bloom.Make(c.words...), bloom.Make(c.once...); !bytes.Equal(got, want) {
			t.Errorf("Make of %s: % x, of each once: % x", brief(c.words), got, want)
		}
		checkMake(t, c.words...)
	}
}

// Words that are only alike are others: seven of them make 16 bytes.
func TestWordsThatAreAlike(t *testing.T) {
	for _, words := range [][]string{
		{"a", "A", "a ", " a", "aa", "a\x00", "\x00a"},
		{"", "\x00", "\x00\x00", "\x00\x00\x00", " ", "  ", "   "},
		{"\ufffd", "\xff", "\xfe", "\xc3", "\xef\xbf", "\xef", "\xbd"},
		{"\u00e9", "\u00c9", "e\u0301", "E\u0301", "e", "E", "\u0301"},
	} {
		if n := len(bloom.Make(words...)); n != 16 {
			t.Errorf("the filter of %q has %d bytes", words, n)
		}
		checkMake(t, words...)
	}
}

// Two texts may have one hash: counted are texts.
func TestWordsOfOneHash(t *testing.T) {
	const one, other = "8yn0iYCKYHlIj4-BwPqk", "GReLUrM4wMqfg9yzV3KQ"
	if bloom.Hash(one) != bloom.Hash(other) {
		t.Fatalf("%x, %x", bloom.Hash(one), bloom.Hash(other))
	}
	if n := len(bloom.Make(append(numbered(5), one, other)...)); n != 16 {
		t.Errorf("the filter of seven texts has %d bytes", n)
	}
	checkMake(t, append(numbered(5), one, other)...)
	checkHas(t, bloom.Make(one), other, true)
}

func TestOrderDoesNotMatter(t *testing.T) {
	r := rand.New(rand.NewSource(4))
	for n := range 60 {
		words := slices.Concat(noise(int64(n), n), strange)
		want := bloom.Make(words...)
		for range 5 {
			r.Shuffle(len(words), func(i, j int) { words[i], words[j] = words[j], words[i] })
			if got := bloom.Make(words...); !bytes.Equal(got, want) {
				t.Errorf("Make of %s in another order: % x, not % x", brief(words), got, want)
			}
		}
	}
}

// P12.2

func TestHasOfNoBytes(t *testing.T) {
	room := bytes.Repeat([]byte{255}, 16)
	for _, w := range slices.Concat(strange, numbered(20)) {
		checkHas(t, nil, w, false)
		checkHas(t, []byte{}, w, false)
		checkHas(t, room[:0], w, false) // what stands behind isn't of the filter
		checkHas(t, bloom.Make(), w, false)
	}
}

func TestHasAsksForAllThreePlaces(t *testing.T) {
	for n := 1; n <= 40; n++ { // a filter may have any number of bytes
		for _, w := range slices.Concat(strange, numbered(10)) {
			places := placesOf(w, 8*n)
			checkHas(t, with(n, places...), w, true)
			checkHas(t, without(n), w, true)
			checkHas(t, with(n), w, false)
			checkHas(t, without(n, places...), w, false)
			for k, i := range places {
				checkHas(t, without(n, i), w, false)
				others := slices.Delete(slices.Clone(places), k, k+1)
				checkHas(t, with(n, others...), w, slices.Contains(others, i))
			}
		}
	}
}

// No bit but the three is asked for.
func TestHasAsksForNoOtherPlace(t *testing.T) {
	for _, n := range []int{1, 2, 3, 8, 11, 16, 24} {
		for _, w := range numbered(5) {
			places := placesOf(w, 8*n)
			for i := range 8 * n {
				checkHas(t, without(n, i), w, !slices.Contains(places, i))
				checkHas(t, with(n, append([]int{i}, places...)...), w, true)
			}
		}
	}
}

// Where a + b is 2^32 or more, a filter whose number of bits is no power of two tells whether it wrapped round.
func TestSumsDoNotWrapRound(t *testing.T) {
	n := 0
	for _, w := range numbered(200) {
		h := hashOf(w)
		if h>>32+h&0xffffffff < 1<<32 {
			continue
		}
		n++
		for _, size := range []int{3, 5, 24, 40} {
			checkHas(t, with(size, placesOf(w, 8*size)...), w, true)
		}
		checkMake(t, append(numbered(18), w)...)
	}
	if n < 20 {
		t.Errorf("%d words of 200", n)
	}
}

func TestHasByItsWords(t *testing.T) {
	r := rand.New(rand.NewSource(5))
	told := [2]int{}
	for n := range 70 {
		filter := make([]byte, n)
		r.Read(filter)
		for _, w := range noise(int64(n), 60) {
			want := hasIn(filter, w)
			checkHas(t, filter, w, want)
			told[map[bool]int{true: 1}[want]]++
		}
	}
	if told[0] == 0 || told[1] == 0 {
		t.Errorf("%d", told)
	}
}

// Words that aren't in a filter are found just where the words that are in it have their bits.
func TestHasOfOtherWords(t *testing.T) {
	for n := 1; n < 40; n++ {
		filter, want := bloom.Make(numbered(n)...), filterOf(numbered(n)...)
		for _, w := range noise(int64(n), 200) {
			checkHas(t, filter, w, hasIn(want, w))
		}
	}
}

// A filter may have 2^32 bits and more. Its memory is asked of the system, since then only what is touched of it is taken.
func TestHasInGreatFilters(t *testing.T) {
	all, err := syscall.Mmap(-1, 0, 1<<29+8, syscall.PROT_READ|syscall.PROT_WRITE, syscall.MAP_ANON|syscall.MAP_PRIVATE)
	if err != nil {
		t.Fatal(err)
	}
	defer syscall.Munmap(all)
	for _, n := range []int{1<<29 - 1, 1 << 29, 1<<29 + 8} {
		filter := all[:n]
		for _, w := range numbered(6) {
			places := placesOf(w, 8*n)
			if bloom.Has(filter, w) {
				t.Errorf("%q is in %d bytes of 0", w, n)
			}
			for _, i := range places {
				filter[i/8] |= 1 << (i % 8)
			}
			if !bloom.Has(filter, w) {
				t.Errorf("%q isn't in %d bytes", w, n)
			}
			for _, i := range places {
				filter[i/8] = 0
			}
		}
	}
}

// P12.3

func TestWhatIsInIsFound(t *testing.T) {
	for _, words := range [][]string{strange, noise(6, 5000), numbered(20000), {strings.Repeat("a", 1<<20), strings.Repeat("a", 1<<20-1)}} {
		for n := len(words); n > 0; n /= 3 {
			filter := bloom.Make(words[:n]...)
			for _, w := range words[:n] {
				if !bloom.Has(filter, w) {
					t.Errorf("%q isn't in the filter of %s", w[:min(len(w), 40)], brief(words[:min(n, 4)]))
				}
			}
		}
	}
}

// A filter that finds everything would be of no use: by its size few words are found that aren't in it.
func TestFewOthersAreFound(t *testing.T) {
	filter := bloom.Make(numbered(10000)...)
	n := 0
	for i := range 10000 {
		if bloom.Has(filter, fmt.Sprintf("other%d", i)) {
			n++
		}
	}
	if n > 300 {
		t.Errorf("%d of 10000", n)
	}
}

// P12.4

// roomy answers l in memory with spare room that holds c.
func roomy[T any](l []T, c T) []T {
	room := slices.Repeat([]T{c}, len(l)+9)
	return append(room[:0], l...)
}

// checkKept checks that l and its spare room hold what they held.
func checkKept[T comparable](t *testing.T, l, was []T, c T) {
	t.Helper()
	if !slices.Equal(l[:cap(l)], roomy(was, c)[:cap(l)]) {
		t.Errorf("%v is now %v", was, l[:cap(l)])
	}
}

func TestWhatIsHandedInStays(t *testing.T) {
	for _, words := range [][]string{nil, {"a"}, {"b", "a"}, {"b", "a", "b", "a"}, {"z", "z", "y", "", "y"}, slices.Repeat([]string{"b", "c", "a"}, 20)} {
		given := roomy(words, "spare")
		bloom.Make(given...)
		checkKept(t, given, words, "spare")
		for _, filter := range [][]byte{nil, {7}, {255, 0, 255}, bloom.Make(words...), bytes.Repeat([]byte{255}, 16)} {
			given := roomy(filter, 0xcc)
			for _, w := range append(words, "x", "") {
				bloom.Has(given, w)
			}
			checkKept(t, given, filter, 0xcc)
		}
	}
}

func TestMakeAnswersNewMemory(t *testing.T) {
	for _, words := range [][]string{nil, {""}, {"a"}, {"b", "a"}, numbered(7), numbered(100)} {
		one, two := bloom.Make(words...), bloom.Make(words...)
		one = one[:cap(one)]
		for i := range one {
			one[i] ^= 0xff
		}
		if !bytes.Equal(two, filterOf(words...)) {
			t.Errorf("two filters of %s share memory", brief(words))
		}
		checkMake(t, words...)
	}
}

// A filter is bytes and no more: a change of the words that it was made of, or of another's bytes, is none of its own.
func TestNothingIsKept(t *testing.T) {
	words := []string{"a", "b"}
	filter := bloom.Make(words...)
	words[0], words[1] = "c", "d"
	if !bytes.Equal(filter, filterOf("a", "b")) {
		t.Errorf("% x", filter)
	}
	checkHas(t, filter, "a", true)
	clear(filter)
	checkHas(t, filter, "a", false)
	checkHas(t, bloom.Make("a"), "a", true)
}

func TestManyAtOnce(t *testing.T) {
	words := noise(8, 300)
	want := filterOf(words...)
	var all sync.WaitGroup
	for range 8 {
		all.Go(func() {
			for range 100 {
				filter := bloom.Make(words...)
				if !bytes.Equal(filter, want) {
					t.Error("Make")
					return
				}
				for _, w := range words {
					if !bloom.Has(filter, w) || !bloom.Has(want, w) {
						t.Errorf("Has of %q", w)
						return
					}
				}
			}
		})
	}
	all.Wait()
}

// The chapter's examples

func TestExamples(t *testing.T) {
	if h := bloom.Hash(""); h != 0xcbf29ce484222325 {
		t.Errorf("%x", h)
	}
	if h := bloom.Hash("a"); h != 0xaf63dc4c8601ec8c {
		t.Errorf("%x", h)
	}
	if n := len(bloom.Make()); n != 0 {
		t.Errorf("%d", n)
	}
	if n := len(bloom.Make("a")); n != 8 {
		t.Errorf("%d", n)
	}
	if n := len(bloom.Make("a", "b", "c", "d", "e", "f", "g")); n != 16 {
		t.Errorf("%d", n)
	}
	checkHas(t, bloom.Make("a"), "a", true)
	checkHas(t, nil, "a", false)
	checkHas(t, bytes.Repeat([]byte{255}, 8), "x", true)
}
