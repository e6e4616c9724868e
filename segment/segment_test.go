package segment_test

import (
	"bytes"
	"encoding/binary"
	"fmt"
	"hash/fnv"
	"maps"
	"math"
	"math/rand"
	"slices"
	"strings"
	"sync"
	"testing"
	"unsafe"

	"garner/api"
	"garner/frame"
	"garner/lz"
	"garner/post"
	"garner/record"
	"garner/segment"
	"garner/utf"
)

// The model: the chapter's words.

// wordsOf answers the words of a line, as often as they stand there.
func wordsOf(line string) []string {
	var l []string
	for _, run := range strings.FieldsFunc(line, func(c rune) bool { return !utf.Word(c) }) {
		w := ""
		for i, c := range []rune(run) {
			if i < 32 {
				w += string(utf.Small(c))
			}
		}
		l = append(l, w)
	}
	return l
}

// termsOf answers the terms of r, some perhaps more than once.
func termsOf(r api.Record) []string {
	l := wordsOf(r.Line)
	for _, x := range r.Labels {
		l = append(l, x.Name+"="+x.Value)
	}
	return l
}

// placesOf answers by each term the places of those of l that have it.
func placesOf(l []api.Record) map[string][]uint64 {
	places := map[string][]uint64{}
	for i, r := range l {
		for _, term := range termsOf(r) {
			if !slices.Contains(places[term], uint64(i)) {
				places[term] = append(places[term], uint64(i))
			}
		}
	}
	return places
}

// blockOf answers the records of the block k of l, if there is one.
func blockOf(l []api.Record, k int) []api.Record {
	var block []api.Record
	for i, r := range l {
		if i/8 == k {
			block = append(block, r)
		}
	}
	return block
}

// bitsOf answers which bits of a filter of m bits are those of word.
func bitsOf(word string, m uint64) []uint64 {
	h := fnv.New64a()
	h.Write([]byte(word))
	a, b := h.Sum64()>>32, h.Sum64()<<32>>32|1
	return []uint64{a % m, (a + b) % m, (a + 2*b) % m}
}

// filter answers how many bits the filter of the words of a block's lines has, and which of them are 1.
func filter(block []api.Record) (uint64, map[uint64]bool) {
	words := map[string]bool{}
	for _, r := range block {
		for _, w := range wordsOf(r.Line) {
			words[w] = true
		}
	}
	m, ones := uint64((10*len(words)+63)/64*64), map[uint64]bool{}
	for w := range words {
		for _, i := range bitsOf(w, m) {
			ones[i] = true
		}
	}
	return m, ones
}

// may answers whether a filter of m bits has word in it.
func may(m uint64, ones map[uint64]bool, word string) bool {
	if m == 0 {
		return false
	}
	for _, i := range bitsOf(word, m) {
		if !ones[i] {
			return false
		}
	}
	return true
}

// span answers the least and the greatest time in a block, 0 and 0 of none.
func span(block []api.Record) (int64, int64) {
	if len(block) == 0 {
		return 0, 0
	}
	lo, hi := int64(math.MaxInt64), int64(math.MinInt64)
	for _, r := range block {
		lo, hi = min(lo, r.Time), max(hi, r.Time)
	}
	return lo, hi
}

// others are texts that records of the tests don't have as terms, or seldom.
var others = []string{"", "=", "a", "a=", "a=1", "A", "A=1", "=1", "1", "GET", " get", "get ", "none", "\xff", "\ufffd", "a=1 ", "b", "app", "web", "app=web", strings.Repeat("w", 33), strings.Repeat("long ", 9999)}

// outside are numbers of which there is no record and no block.
var outside = []int{-1, -2, -7, -8, -9, -1 << 31, -1 << 32, math.MinInt, math.MinInt + 7, 65536, 1 << 32, 1 << 60, 1 << 61, 1<<61 + 1, math.MaxInt - 7, math.MaxInt}

// check holds all that s tells against the model of l.
func check(t *testing.T, s *segment.Segment, l []api.Record) {
	t.Helper()
	if s.Len() != len(l) || s.Blocks() != (len(l)+7)/8 {
		t.Fatalf("Len: %d, Blocks: %d, of %d records", s.Len(), s.Blocks(), len(l))
	}
	if all := s.All(); !slices.EqualFunc(all, l, same) {
		t.Fatalf("All: %v, not %v", all, l)
	}
	checkRecords(t, s, l)
	places := placesOf(l)
	terms := append(slices.Sorted(maps.Keys(places)), others...)
	for _, term := range terms {
		if found, want := s.Find(term), places[term]; !slices.Equal(found, want) {
			t.Fatalf("Find(%q): %d, not %d, of %v", term, found, want, l)
		}
	}
	checkBlocks(t, s, l, terms)
}

// checkRecords checks what Record answers of each place, and of some where there is none.
func checkRecords(t *testing.T, s *segment.Segment, l []api.Record) {
	t.Helper()
	for i, want := range l {
		if r, ok := s.Record(i); !ok || !same(r, want) {
			t.Fatalf("Record(%d): %v, %t, not %v", i, r, ok, want)
		}
	}
	for _, i := range append(outside, len(l), len(l)+1, len(l)+7) {
		if r, ok := s.Record(i); ok || !same(r, api.Record{}) {
			t.Fatalf("Record(%d) of %d: %v, %t", i, len(l), r, ok)
		}
	}
}

// checkBlocks checks what Span and May answer of each block, and of some that there aren't.
func checkBlocks(t *testing.T, s *segment.Segment, l []api.Record, words []string) {
	t.Helper()
	count := (len(l) + 7) / 8
	for k := range count + 2 {
		block := blockOf(l, k)
		lo, hi := span(block)
		if a, b := s.Span(k); a != lo || b != hi {
			t.Fatalf("Span(%d): %d, %d, not %d, %d, of %v", k, a, b, lo, hi, l)
		}
		m, ones := filter(block)
		for _, w := range words {
			if s.May(k, w) != may(m, ones, w) {
				t.Fatalf("May(%d, %q): %t, of %v", k, w, s.May(k, w), block)
			}
		}
		for _, r := range block {
			for _, w := range wordsOf(r.Line) {
				if !s.May(k, w) {
					t.Fatalf("May(%d, %q) is false, of %q", k, w, r.Line)
				}
			}
		}
	}
	for _, k := range outside {
		if a, b := s.Span(k); a != 0 || b != 0 {
			t.Fatalf("Span(%d): %d, %d", k, a, b)
		}
		for _, w := range words[:min(len(words), 20)] {
			if s.May(k, w) {
				t.Fatalf("May(%d, %q)", k, w)
			}
		}
	}
}

// same tells whether a and b are one record.
func same(a, b api.Record) bool {
	return a.Time == b.Time && a.Seq == b.Seq && a.Line == b.Line && slices.Equal(a.Labels, b.Labels)
}

// labels answers labels of names and values in turn.
func labels(l ...string) []api.Label {
	var all []api.Label
	for i := 0; i < len(l); i += 2 {
		all = append(all, api.Label{Name: l[i], Value: l[i+1]})
	}
	return all
}

// rec answers a record.
func rec(time int64, seq uint64, line string, names ...string) api.Record {
	return api.Record{Time: time, Seq: seq, Labels: labels(names...), Line: line}
}

// rows answers n records in order, with what some have in common and what each has alone.
func rows(n int) []api.Record {
	var l []api.Record
	for i := range n {
		l = append(l, rec(int64(i/3), uint64(100+i), fmt.Sprintf("GET /a%d line %d of all", i, i%5), "app", "web", "p", fmt.Sprint(i%2)))
	}
	return l
}

// plain answers n records without labels and lines, in order.
func plain(n int) []api.Record {
	l := make([]api.Record, n)
	for i := range l {
		l[i].Seq = uint64(i)
	}
	return l
}

// most answers n records as long as records may be, no two of their lines and labels alike.
func most(n int) []api.Record {
	r := rand.New(rand.NewSource(14))
	random := func(size int) string {
		b := make([]byte, size)
		for i := range b {
			b[i] = byte(' ' + r.Intn(95))
		}
		return string(b)
	}
	var l []api.Record
	for i := range n {
		x := api.Record{Time: math.MaxInt64 - int64(n-i), Seq: math.MaxUint64 - uint64(i), Line: random(1024)}
		for j := range 16 {
			x.Labels = append(x.Labels, api.Label{Name: strings.Repeat("n", 31) + string(rune('a'+j)), Value: random(256)})
		}
		l = append(l, x)
	}
	return l
}

// noise answers a line by chance.
func noise(r *rand.Rand) string {
	pieces := []string{"GET", "get", "/api/v1", "code=500", "user_id", "_", "7", "a", "A", "=", " ", "-", "\u00c9t\u00e9", "\u041c\u0418\u0420", "\u00d7", "\u2014", "\ufffd", "\U0001f600", strings.Repeat("w", 31), strings.Repeat("W", 40)}
	s := ""
	for range r.Intn(12) {
		s += pieces[r.Intn(len(pieces))]
	}
	return s
}

// some answers up to n records in order by chance.
func some(r *rand.Rand, n int) []api.Record {
	var l []api.Record
	for range r.Intn(n + 1) {
		x := rec(int64(r.Intn(9)-4), uint64(r.Intn(9)), noise(r))
		for _, name := range []string{"a", "app", "b1", "z_"} {
			if r.Intn(3) == 0 {
				x.Labels = append(x.Labels, api.Label{Name: name, Value: noise(r)})
			}
		}
		l = append(l, x)
	}
	slices.SortFunc(l, record.Compare)
	return slices.CompactFunc(l, func(a, b api.Record) bool { return record.Compare(a, b) == 0 })
}

// lists are records in order of all kinds.
func lists() [][]api.Record {
	r := rand.New(rand.NewSource(41))
	const least, greatest = math.MinInt64, math.MaxInt64
	l := [][]api.Record{
		{rec(0, 0, "")}, {rec(-1, 5, "hi", "a", "1")}, {rec(least, math.MaxUint64, "x")}, {rec(greatest, 0, "x x X")},
		{rec(least, 0, "a"), rec(least, math.MaxUint64, "b"), rec(-1, 3, ""), rec(0, 2, "a"), rec(greatest, 0, "b"), rec(greatest, 1<<63-1, ""), rec(greatest, 1<<63, ""), rec(greatest, math.MaxUint64, "a b")},
		{rec(1, 9, "down"), rec(2, 8, "with"), rec(3, 7, "Seqs"), rec(4, 0, "\u041c\u0418\u0420 \u2014 \U0001f600")},
		{rec(0, 1, "a=1", "a", "1"), rec(0, 2, "1 a", "a", ""), rec(0, 3, "", "a", "1", "b", "=\"\\\n ")},
		plain(64), plain(65), most(1), most(9), some(r, 200), some(r, 200),
	}
	for n := range 35 {
		l = append(l, rows(n))
	}
	return l
}

// written answers the bytes of a segment of l.
func written(t *testing.T, l []api.Record) []byte {
	t.Helper()
	b, e := segment.Write(l)
	if e != api.OK || len(b) == 0 {
		t.Fatalf("Write of %d records: %d bytes, %d", len(l), len(b), e)
	}
	return b
}

// opened answers the segment whose bytes are b.
func opened(t *testing.T, b []byte) *segment.Segment {
	t.Helper()
	s, e := segment.Open(b)
	if s == nil || e != api.OK {
		t.Fatalf("Open: %v, %d", s, e)
	}
	return s
}

// checkForm checks that b is taken for no segment.
func checkForm(t *testing.T, b []byte, what string) {
	t.Helper()
	if s, e := segment.Open(b); s != nil || e != api.ErrForm {
		t.Errorf("Open of %d bytes, %s: %v, %d", len(b), what, s != nil, e)
	}
}

// checkOpen checks that Open takes b just if it is what Write answers; it answers whether it is.
func checkOpen(t *testing.T, b []byte, what string) bool {
	t.Helper()
	s, e := segment.Open(b)
	if e != api.OK {
		if s != nil || e != api.ErrForm {
			t.Errorf("%s: %v, %d", what, s != nil, e)
		}
		return false
	}
	again, e := segment.Write(s.All())
	if e != api.OK || !bytes.Equal(again, b) {
		t.Errorf("%s: what Write answers for no list is opened", what)
	}
	return true
}

// P14.1

// faulty are what may not be records, and why.
var faulty = []struct {
	r    api.Record
	want api.Errno
}{
	{api.Record{Labels: make([]api.Label, 17)}, api.ErrMany},
	{rec(0, 0, "", "A", "1"), api.ErrForm},
	{rec(0, 0, "", "", ""), api.ErrForm},
	{rec(0, 0, "", "a", strings.Repeat("v", 257)), api.ErrLong},
	{rec(0, 0, "", "a", "\xff"), api.ErrUtf},
	{rec(0, 0, "", "a", "1", "a", "2"), api.ErrForm},
	{rec(0, 0, "", "b", "1", "a", "2"), api.ErrForm},
	{rec(0, 0, strings.Repeat("l", 1025)), api.ErrLong},
	{rec(0, 0, "\xff"), api.ErrUtf},
}

// checkError checks that Write answers an error and nothing else.
func checkError(t *testing.T, l []api.Record, want api.Errno, what string) {
	t.Helper()
	if b, e := segment.Write(l); len(b) != 0 || e != want {
		t.Errorf("Write of %d records, %s: %d bytes, %d, not %d", len(l), what, len(b), e, want)
	}
}

func TestWriteOfWhatIsNoRecord(t *testing.T) {
	for _, c := range faulty {
		for at := range 10 {
			l := rows(10)
			l[at].Labels, l[at].Line = c.r.Labels, c.r.Line
			checkError(t, l, c.want, fmt.Sprintf("with a fault at the place %d", at))
			for _, i := range []int{0, 4, 8} { // it is told of ahead of the order, wherever that is broken
				l[i], l[i+1] = l[i+1], l[i]
				checkError(t, l, c.want, "neither records nor in order")
				l[i+1] = l[i]
				l[(i+5)%10].Labels, l[(i+5)%10].Line = c.r.Labels, c.r.Line
				checkError(t, l, c.want, "neither records nor all different")
			}
		}
	}
}

// Of several faults that of the first record is told.
func TestWriteOfSeveralFaults(t *testing.T) {
	for _, a := range faulty {
		for _, b := range faulty {
			checkError(t, []api.Record{a.r, b.r}, a.want, "both faulty")
			checkError(t, []api.Record{rec(9, 9, ""), rec(9, 9, ""), a.r, rec(0, 0, ""), b.r}, a.want, "two faulty")
		}
	}
}

func TestWriteOutOfOrder(t *testing.T) {
	for _, l := range [][]api.Record{
		{rec(1, 1, ""), rec(1, 1, "")},
		{rec(1, 1, "a", "a", "1"), rec(1, 1, "b", "b", "2")}, // the order looks at Time and Seq alone
		{rec(1, 2, ""), rec(1, 1, "")},
		{rec(2, 1, ""), rec(1, 2, "")},
		{rec(0, 1, ""), rec(-1, 2, "")},
		{rec(math.MaxInt64, 1, ""), rec(math.MinInt64, 2, "")},
		{rec(0, math.MaxUint64, ""), rec(0, 0, "")},
		{rec(0, 1<<63, ""), rec(0, 1<<63-1, "")},
		{rec(math.MinInt64, 0, ""), rec(math.MinInt64, 0, "")},
		{rec(math.MaxInt64, math.MaxUint64, ""), rec(math.MaxInt64, math.MaxUint64, "")},
		{rec(1, 1, ""), rec(3, 1, ""), rec(2, 1, "")},
		{rec(2, 1, ""), rec(1, 1, ""), rec(3, 1, "")},
		{rec(1, 1, ""), rec(2, 1, ""), rec(1, 1, "")},
	} {
		checkError(t, l, api.ErrArg, fmt.Sprint(l))
	}
	for n := 2; n < 20; n++ { // at each place, at the edges of blocks too
		for at := 1; at < n; at++ {
			l := rows(n)
			l[at-1], l[at] = l[at], l[at-1]
			checkError(t, l, api.ErrArg, fmt.Sprintf("two swapped at %d", at))
			l[at] = l[at-1]
			checkError(t, l, api.ErrArg, fmt.Sprintf("one twice at %d", at))
		}
		checkError(t, append(rows(n), rows(1)...), api.ErrArg, "the first one behind all")
	}
}

func TestWriteMany(t *testing.T) {
	for _, n := range []int{65537, 65544, 1 << 17} {
		checkError(t, plain(n), api.ErrMany, "in order")
		checkError(t, make([]api.Record, n), api.ErrMany, "all the same") // of two errors it is this one
		l := plain(n)
		l[0].Line = "\xff"
		checkError(t, l, api.ErrMany, "one of them none")
	}
	for _, n := range []int{65535, 65536} {
		l := plain(1 << 17)[:n] // records that aren't in the list don't count
		check(t, opened(t, written(t, l)), l)
		checkError(t, make([]api.Record, n), api.ErrArg, "all the same")
		l[n-1].Line = "\xff"
		checkError(t, l, api.ErrUtf, "the last one none")
	}
}

func TestOpenOfSegments(t *testing.T) {
	for _, l := range lists() {
		check(t, opened(t, written(t, l)), l)
	}
	r := rand.New(rand.NewSource(5))
	for range 300 {
		l := some(r, 40)
		check(t, opened(t, written(t, l)), l)
	}
}

// checkSize checks that a segment of l has as many bytes at most as it may have.
func checkSize(t *testing.T, l []api.Record, what string) {
	t.Helper()
	batch, e := record.PutAll(l...)
	if e != api.OK {
		t.Fatalf("%s: %d", what, e)
	}
	if b := written(t, l); len(b) > 16*len(batch)+1000 {
		t.Errorf("%s: %d bytes of %d records with %d", what, len(b), len(l), len(batch))
	}
}

func TestSizes(t *testing.T) {
	for i, l := range lists() {
		checkSize(t, l, fmt.Sprintf("the list %d", i))
	}
	for _, n := range []int{1, 7, 8, 9, 100, 5000, 65536} {
		checkSize(t, plain(n), "without lines")
		checkSize(t, withWords(n, 1, 1), "one word each, most of them alike")
		checkSize(t, withWords(n, 1, 1<<20), "one word each, all different")
	}
	for _, n := range []int{1, 8, 9, 1000} {
		for _, words := range []int{2, 10, 100, 200} {
			for _, different := range []int{1, 2, 37, 1000, 1 << 20} {
				checkSize(t, withWords(n, words, different), fmt.Sprintf("%d words each, %d in all", words, different))
			}
		}
	}
}

// withWords answers n records of so many short words, so many different ones in all at most.
func withWords(n, words, different int) []api.Record {
	l := plain(n)
	next := 0
	for i := range l {
		var line []string
		for range words {
			line = append(line, shortWord(next%different))
			next++
		}
		l[i].Line = strings.Join(line, " ")
	}
	return l
}

// shortWord answers a word of its own for each number, the shortest first.
func shortWord(n int) string {
	const letters = "abcdefghijklmnopqrstuvwxyz0123456789_"
	w := letters[n%37 : n%37+1]
	for n /= 37; n > 0; n /= 37 {
		n--
		w += letters[n%37 : n%37+1]
	}
	return w
}

// The same records, in whatever memory, have the same bytes.
func TestSameBytes(t *testing.T) {
	for _, l := range append(lists(), withWords(3000, 5, 1<<20)) {
		b := written(t, l)
		other := make([]api.Record, len(l), len(l)+9)
		for i, r := range l {
			other[i] = api.Record{Time: r.Time, Seq: r.Seq, Labels: append([]api.Label{}, r.Labels...), Line: strings.Clone(r.Line)}
		}
		for range 3 {
			if !bytes.Equal(written(t, l), b) || !bytes.Equal(written(t, other), b) {
				t.Fatalf("%d records: other bytes", len(l))
			}
		}
		if !bytes.Equal(written(t, opened(t, b).All()), b) {
			t.Fatalf("%d records: other bytes of what was opened", len(l))
		}
	}
}

func TestOtherRecordsOtherBytes(t *testing.T) {
	seen := map[string]bool{}
	count := 0
	for n := range 12 {
		for at := range n {
			for _, change := range []func(r *api.Record){
				func(r *api.Record) { r.Seq += 1000 },
				func(r *api.Record) { r.Line += "!" },
				func(r *api.Record) { r.Labels[0].Value = "Web" },
				func(r *api.Record) { r.Labels = r.Labels[:1] },
			} {
				l := rows(n)
				change(&l[at])
				slices.SortFunc(l, record.Compare)
				seen[string(written(t, l))] = true
				count++
			}
		}
		seen[string(written(t, rows(n)))] = true
		count++
	}
	if len(seen) != count {
		t.Errorf("%d bytes of %d lists", len(seen), count)
	}
}

func TestOpenOfTurnedBits(t *testing.T) {
	for _, n := range []int{0, 1, 2, 8, 9, 17} {
		b := written(t, rows(n))
		for bit := range 8 * len(b) {
			b[bit/8] ^= 1 << (bit % 8)
			checkForm(t, b, fmt.Sprintf("the bit %d turned", bit))
			b[bit/8] ^= 1 << (bit % 8)
		}
		check(t, opened(t, b), rows(n))
	}
	b := written(t, withWords(3000, 4, 1<<20))
	for bit := 0; bit < 8*len(b); bit += 8*len(b)/500 | 1 {
		b[bit/8] ^= 1 << (bit % 8)
		checkForm(t, b, fmt.Sprintf("the bit %d turned", bit))
		b[bit/8] ^= 1 << (bit % 8)
	}
}

func TestOpenOfPieces(t *testing.T) {
	checkForm(t, nil, "none")
	checkForm(t, []byte{}, "none")
	for _, l := range [][]api.Record{nil, rows(1), rows(8), rows(9), rows(30), most(2)} {
		b := written(t, l)
		for n := range b {
			checkForm(t, b[:n], "a beginning") // what is missing stands in the spare room
			checkForm(t, bytes.Clone(b[:n]), "a beginning, without spare room")
			checkForm(t, b[n+1:], "an end")
		}
		for c := range 256 {
			checkForm(t, append(bytes.Clone(b), byte(c)), "one byte more at the end")
			checkForm(t, append([]byte{byte(c)}, b...), "one byte more ahead")
		}
		checkForm(t, append(bytes.Clone(b), b...), "twice")
		checkForm(t, append(bytes.Clone(b), written(t, nil)...), "and that of none")
		checkForm(t, append(bytes.Clone(b), make([]byte, 100)...), "and noughts")
	}
}

func TestOpenOfNoise(t *testing.T) {
	r := rand.New(rand.NewSource(9))
	for n := range 300 {
		b := make([]byte, n)
		checkForm(t, b, "noughts")
		r.Read(b)
		checkForm(t, b, "noise")
		for i := range b {
			b[i] = 0xff
		}
		checkForm(t, b, "ones")
	}
	for _, l := range [][]api.Record{rows(3), rows(20)} {
		b := written(t, l)
		for range 2000 {
			c := bytes.Clone(b)
			for range 2 + r.Intn(8) {
				c[r.Intn(len(c))] = byte(r.Intn(256))
			}
			checkOpen(t, c, "some bytes changed")
		}
	}
	batch, _ := record.PutAll(rows(9)...)
	checkForm(t, batch, "a batch")
	f, _ := frame.Frame(batch)
	checkForm(t, f, "a framed batch")
}

// What is sealed rightly, but isn't what Write answers. Of a segment's bytes the tests know this: eight bytes with how many lie between them and the last four; frames; four with the checksum. The frames: the blocks, an empty one, the filters, the terms each with its postings.

// sealed answers frames in a seal.
func sealed(frames []byte) []byte {
	b := binary.LittleEndian.AppendUint64(nil, uint64(len(frames)))
	b = append(b, frames...)
	return binary.LittleEndian.AppendUint32(b, frame.Sum(b))
}

// forged answers the sealed frames of the payloads.
func forged(payloads ...[]byte) []byte {
	var frames []byte
	for _, p := range payloads {
		f, _ := frame.Frame(p)
		frames = append(frames, f...)
	}
	return sealed(frames)
}

// payloadsOf answers the payloads of the frames of b.
func payloadsOf(t *testing.T, b []byte) [][]byte {
	t.Helper()
	frames := b[8 : len(b)-4]
	var l [][]byte
	for at := 0; at < len(frames); {
		p, to, e := frame.Read(frames, at)
		if e != api.OK {
			t.Fatalf("the frame at %d: %d", at, e)
		}
		l = append(l, p)
		at = to
	}
	if !bytes.Equal(forged(l...), b) {
		t.Fatal("the tests know other bytes")
	}
	return l
}

// packed answers the compressed batch of l.
func packed(l ...api.Record) []byte {
	batch, _ := record.PutAll(l...)
	b, _ := lz.Compress(batch)
	return b
}

// layout answers the payloads of a segment with those blocks and the index of l, be they the same records or not.
func layout(t *testing.T, l []api.Record, blocks ...[]byte) [][]byte {
	t.Helper()
	own := payloadsOf(t, written(t, l))
	return append(blocks, own[(len(l)+7)/8:]...)
}

func TestOpenOfForgedSeals(t *testing.T) {
	l := rows(10)
	b := written(t, l)
	frames := b[8 : len(b)-4]
	if !bytes.Equal(sealed(frames), b) {
		t.Fatal("the tests know other bytes")
	}
	for _, by := range []int64{-9, -8, -4, -1, 1, 4, 8, 1 << 32, math.MinInt64} { // another number of bytes, with its checksum
		c := binary.LittleEndian.AppendUint64(nil, uint64(int64(len(frames))+by))
		c = append(c, frames...)
		checkForm(t, binary.LittleEndian.AppendUint32(c, frame.Sum(c)), fmt.Sprintf("%d more bytes told", by))
	}
	c := bytes.Clone(b[:len(b)-4])
	for _, sum := range []uint32{0, ^uint32(0), frame.Sum(frames), frame.Sum(b), ^frame.Sum(c)} {
		checkForm(t, binary.LittleEndian.AppendUint32(c, sum), "another checksum")
	}
	checkForm(t, binary.BigEndian.AppendUint32(c, frame.Sum(c)), "the checksum's highest byte first")
	for n := range frames {
		checkForm(t, sealed(frames[:n]), "a beginning of the frames")
		checkForm(t, sealed(frames[n+1:]), "an end of the frames")
	}
	for c := range 256 {
		checkForm(t, sealed(append(bytes.Clone(frames), byte(c))), "one byte more behind the frames")
	}
	checkForm(t, sealed(append(bytes.Clone(frames), frames...)), "the frames twice")
	checkForm(t, sealed(append([]byte{frames[0] | 0x80, 0x00}, frames[1:]...)), "a frame's length in more bytes")
}

func TestOpenOfForgedFrames(t *testing.T) {
	for _, n := range []int{0, 1, 8, 9, 20} {
		own := payloadsOf(t, written(t, rows(n)))
		for i := range own {
			without := slices.Delete(slices.Clone(own), i, i+1)
			checkForm(t, forged(without...), fmt.Sprintf("the frame %d away", i))
			checkForm(t, forged(slices.Insert(slices.Clone(own), i, own[i])...), fmt.Sprintf("the frame %d twice", i))
			checkForm(t, forged(slices.Insert(slices.Clone(own), i, []byte("x"))...), fmt.Sprintf("one more frame ahead of %d", i))
			checkForm(t, forged(append(slices.Clone(own), own[i])...), fmt.Sprintf("the frame %d at the end too", i))
			for j := range i {
				other := slices.Clone(own)
				other[i], other[j] = other[j], other[i]
				if !bytes.Equal(own[i], own[j]) {
					checkForm(t, forged(other...), fmt.Sprintf("the frames %d and %d swapped", i, j))
				}
			}
			other := slices.Clone(own)
			for _, p := range [][]byte{nil, append(bytes.Clone(own[i]), 0), append([]byte{0}, own[i]...), own[i][:max(len(own[i]), 1)-1], []byte("other")} {
				if other[i] = p; !bytes.Equal(p, own[i]) {
					checkForm(t, forged(other...), fmt.Sprintf("the frame %d is %x", i, p))
				}
			}
		}
		checkForm(t, forged(append(own, nil)...), "an empty frame more")
	}
}

// One bit in a frame, sealed again: it may be that of other records, but then of these alone.
func TestOpenOfForgedBits(t *testing.T) {
	l := []api.Record{rec(4, 7, "get b b", "a", "1"), rec(9, 3, "B c"), rec(9, 200, "-")}
	own := payloadsOf(t, written(t, l))
	taken := 0
	for i := range own {
		for bit := range 8 * len(own[i]) {
			own[i][bit/8] ^= 1 << (bit % 8)
			if checkOpen(t, forged(own...), fmt.Sprintf("the bit %d of the frame %d turned", bit, i)) {
				taken++
				if i > 0 {
					t.Errorf("the bit %d of the frame %d turned: it is opened", bit, i)
				}
			}
			own[i][bit/8] ^= 1 << (bit % 8)
		}
	}
	if taken == 0 { // those of Times, for one
		t.Error("none was a segment's")
	}
}

func TestOpenOfForgedBlocks(t *testing.T) {
	l := rows(10)
	if !bytes.Equal(forged(layout(t, l, packed(l[:8]...), packed(l[8:]...))...), written(t, l)) {
		t.Fatal("the tests know other bytes")
	}
	for _, cuts := range [][]int{{10}, {7, 3}, {9, 1}, {1, 9}, {2, 8}, {5, 5}, {8, 1, 1}, {4, 4, 2}, {0, 8, 2}, {8, 0, 2}, {8, 2, 0}, {8}, {0}, {}} {
		var blocks [][]byte
		from := 0
		for _, n := range cuts {
			blocks = append(blocks, packed(l[from:from+n]...))
			from += n
		}
		checkForm(t, forged(layout(t, l, blocks...)...), fmt.Sprintf("blocks of %d", cuts))
	}
	checkForm(t, forged(layout(t, nil, packed())...), "a block of none")

	batch, _ := record.PutAll(l[:8]...)
	loose := binary.AppendUvarint(nil, uint64(len(batch))) // it becomes the batch, but isn't the way in which Compress does it
	loose = binary.AppendUvarint(loose, 2*uint64(len(batch)))
	loose = append(loose, batch...)
	if x, e := lz.Expand(loose, 65536); e != api.OK || !bytes.Equal(x, batch) {
		t.Fatal(e)
	}
	checkForm(t, forged(layout(t, l, loose, packed(l[8:]...))...), "a block that is compressed another way")
	checkForm(t, forged(layout(t, l, batch, packed(l[8:]...))...), "a block that isn't compressed")
	checkForm(t, forged(layout(t, l, []byte("\x00"), packed(l[8:]...))...), "a block of no bytes")
	for _, more := range []string{"\x00", "x", string(batch)} {
		c, _ := lz.Compress(append(bytes.Clone(batch), more...))
		checkForm(t, forged(layout(t, l, c, packed(l[8:]...))...), "a batch with more behind it")
	}
	for _, fewer := range [][]byte{{7}, {9}, {0}, {0xff, 0xff, 0x03}, {0x88, 0x00}} {
		c, _ := lz.Compress(append(fewer, batch[1:]...))
		checkForm(t, forged(layout(t, l, c, packed(l[8:]...))...), "a batch of another number")
	}
}

func TestOpenOfForgedRecords(t *testing.T) {
	for _, l := range [][]api.Record{
		{rec(1, 2, "a"), rec(1, 1, "b")},
		{rec(2, 1, "a"), rec(1, 2, "b")},
		{rec(1, 1, "a"), rec(1, 1, "b")},
		{rec(1, 1, "a"), rec(1, 1, "a")},
		{rec(0, math.MaxUint64, "a"), rec(0, 0, "b")},
	} {
		ordered := []api.Record{rec(4, 4, l[0].Line), rec(5, 5, l[1].Line)} // an index hangs on words and places alone
		if !bytes.Equal(forged(layout(t, ordered, packed(ordered...))...), written(t, ordered)) {
			t.Fatal("the tests know other bytes")
		}
		checkForm(t, forged(layout(t, ordered, packed(l...))...), fmt.Sprintf("%v", l))
		checkForm(t, forged(layout(t, ordered, packed(ordered...), packed(ordered...))...), "a block twice")
	}
	for _, b := range []string{"\x01\x00\x00\x00\x01\xff", "\x01\x00\x00\x01\x01A\x00\x00", "\x01\x00\x00\x11", "\x01\x00\x00\x02\x01b\x00\x01a\x00\x00", "\x01\x80\x00\x00\x00\x00"} { // what may be no record
		c, _ := lz.Compress([]byte(b))
		checkForm(t, forged(layout(t, plain(1), c)...), fmt.Sprintf("% x", b))
	}
}

func TestOpenOfForgedIndexes(t *testing.T) {
	l := rows(10)
	for _, other := range [][]api.Record{rows(9), rows(11), rows(16), withWords(10, 3, 9), plain(10), nil} {
		checkForm(t, forged(layout(t, other, packed(l[:8]...), packed(l[8:]...))...), "another list's index")
	}
	line := rows(10)
	line[3].Line = "GET /a3 line 3 of alL!" // the same words, so the same index
	if !checkOpen(t, forged(layout(t, l, packed(line[:8]...), packed(line[8:]...))...), "another list's index that is the same") {
		t.Error("a list with another line, but the same words, is no segment")
	}
	own := layout(t, l, packed(l[:8]...), packed(l[8:]...))
	for i := 6; i < len(own); i += 2 { // postings of other places
		for _, places := range [][]uint64{nil, {0}, {9}, {10}, {0, 1, 2, 3, 4, 5, 6, 7, 8, 9}, {0, 65536}, {math.MaxUint64}} {
			p, _ := post.Write(places)
			other := slices.Clone(own)
			if other[i] = p; !bytes.Equal(p, own[i]) {
				checkForm(t, forged(other...), fmt.Sprintf("%q has other places", own[i-1]))
			}
		}
	}
	none, _ := post.Write(nil)
	checkForm(t, forged(append(slices.Clone(own), []byte("zz"), none)...), "a term that no record has")
	for i := range 2 { // filters
		other := slices.Clone(own)
		other[3+i] = bytes.Repeat([]byte{0xff}, len(own[3+i]))
		checkForm(t, forged(other...), "a filter of ones")
		other[3+i] = append(bytes.Clone(own[3+i]), own[3+i]...)
		checkForm(t, forged(other...), "a filter of twice as many bits")
	}
}

// More records, or blocks, than any segment has.
func TestOpenOfForgedNumbers(t *testing.T) {
	l := plain(65536)
	own := payloadsOf(t, written(t, l))
	if len(own) != 2*8192+1 {
		t.Fatalf("%d frames", len(own))
	}
	for _, more := range []int{1, 8, 9} {
		var extra [][]byte
		for i := range more {
			extra = append(extra, packed(rec(0, uint64(65536+i), "")))
		}
		checkForm(t, forged(slices.Insert(slices.Clone(own), 8192, extra...)...), "too many records")
	}
	checkForm(t, forged(slices.Insert(slices.Clone(own), 8192, packed())...), "a block more, of none")
	empty := slices.Repeat([][]byte{packed()}, 200000)
	checkForm(t, forged(empty...), "blocks of none alone")
	checkForm(t, forged(append(empty, nil)...), "blocks of none")
	many := slices.Repeat([][]byte{packed(plain(10000)...)}, 50)
	checkForm(t, forged(append(many, nil)...), "long blocks, again and again")
	large, _ := lz.Compress(make([]byte, 65536))
	checkForm(t, forged(large, nil), "a block of many noughts")
	checkForm(t, forged([]byte("\x81\x80\x04\x02\x00\xff\xff\x07\x01"), nil), "a block that becomes too long")
}

func TestOpenOfNone(t *testing.T) {
	s := opened(t, written(t, nil))
	check(t, s, nil)
	if !bytes.Equal(written(t, []api.Record{}), written(t, nil)) {
		t.Error("an empty list has other bytes than nil")
	}
	for _, b := range [][]byte{forged(), forged(nil, nil), forged(packed(), nil), sealed([]byte{0})} {
		checkForm(t, b, "nearly that of none")
	}
}

// P14.2

func TestRecord(t *testing.T) {
	for _, n := range []int{1, 7, 8, 9, 16, 17} {
		s := opened(t, written(t, rows(n)))
		checkRecords(t, s, rows(n))
		if r, ok := s.Record(n - 1); !ok || r.Seq != uint64(99+n) {
			t.Errorf("Record(%d): %v, %t", n-1, r, ok)
		}
	}
}

func TestFind(t *testing.T) {
	s := opened(t, written(t, []api.Record{
		rec(-5, 7, "web", "web", "app"),
		rec(2, 2, "get get b", "app", "Web"),
		rec(9, 1, "GET /a code=500 "+strings.Repeat("W", 40), "app", "web", "env", ""),
		rec(9, 4, "\u041c\u0418\u0420", "app", "web"),
	}))
	for _, c := range []struct {
		term string
		want []uint64
	}{
		{"get", []uint64{1, 2}}, {"GET", nil}, {"ge", nil}, {"gett", nil}, {" get", nil},
		{"app=web", []uint64{2, 3}}, {"app=Web", []uint64{1}}, {"app=", nil}, {"app", nil}, {"=web", nil}, {"app=we", nil},
		{"web", []uint64{0}}, {"web=app", []uint64{0}}, {"env=", []uint64{2}}, {"env", nil},
		{"code", []uint64{2}}, {"500", []uint64{2}}, {"code=500", nil}, {"a", []uint64{2}}, {"b", []uint64{1}}, {"/a", nil},
		{strings.Repeat("w", 32), []uint64{2}}, {strings.Repeat("w", 31), nil}, {strings.Repeat("w", 33), nil}, {strings.Repeat("W", 40), nil},
		{"\u043c\u0438\u0440", []uint64{3}}, {"\u041c\u0418\u0420", nil}, {"", nil}, {"=", nil}, {"\xff", nil}, {strings.Repeat("get ", 1<<16), nil},
	} {
		if l := s.Find(c.term); !slices.Equal(l, c.want) {
			t.Errorf("Find(%q): %d, not %d", c.term, l, c.want)
		}
	}
}

// A segment of as many records as there may be, with what all have, what every second has, and what one alone has.
func TestMostRecords(t *testing.T) {
	const n = 65536
	l := make([]api.Record, n)
	var all, odd []uint64
	for i := range l {
		l[i] = rec(int64(i/2-n), uint64(i), fmt.Sprintf("all m%d n%d", i%2, i), "a", "1")
		all = append(all, uint64(i))
		if i%2 == 1 {
			odd = append(odd, uint64(i))
		}
	}
	checkSize(t, l, "most records")
	s := opened(t, written(t, l))
	if s.Len() != n || s.Blocks() != n/8 || !slices.EqualFunc(s.All(), l, same) {
		t.Fatalf("Len: %d, Blocks: %d", s.Len(), s.Blocks())
	}
	if !slices.Equal(s.Find("all"), all) || !slices.Equal(s.Find("a=1"), all) || !slices.Equal(s.Find("m1"), odd) {
		t.Error("what many have")
	}
	for i := 0; i < n; i += 97 {
		if l := s.Find(fmt.Sprintf("n%d", i)); !slices.Equal(l, []uint64{uint64(i)}) {
			t.Fatalf("the record %d: %d", i, l)
		}
		if r, ok := s.Record(i); !ok || !same(r, l[i]) {
			t.Fatalf("the record %d: %v", i, r)
		}
		if lo, hi := s.Span(i / 8); lo != int64(i/8*4-n) || hi != lo+3 || !s.May(i/8, fmt.Sprintf("n%d", i)) {
			t.Fatalf("the block %d: %d to %d", i/8, lo, hi)
		}
	}
}

// The greatest records take up the most room in a block.
func TestGreatestRecords(t *testing.T) {
	for _, n := range []int{7, 8, 9, 64} {
		l := most(n)
		checkSize(t, l, "the greatest records")
		check(t, opened(t, written(t, l)), l)
	}
	l := withWords(8, 170, 1<<20) // a filter of many words
	check(t, opened(t, written(t, l)), l)
}

// P14.3

func TestBlocks(t *testing.T) {
	for n := range 70 {
		s := opened(t, written(t, plain(n)))
		if s.Blocks() != (n+7)/8 {
			t.Errorf("Blocks of %d: %d", n, s.Blocks())
		}
	}
}

func TestSpan(t *testing.T) {
	var l []api.Record
	for i, x := range []int64{math.MinInt64, math.MinInt64, -9, -9, -1, -1, 0, 0, 0, 0, 0, 0, 0, 0, 0, 0, 1, 1, 5, 1 << 40, math.MaxInt64 - 1, math.MaxInt64, math.MaxInt64, math.MaxInt64, math.MaxInt64} {
		l = append(l, rec(x, uint64(i), ""))
	}
	s := opened(t, written(t, l))
	for k, want := range [][2]int64{{math.MinInt64, 0}, {0, 0}, {1, math.MaxInt64}, {math.MaxInt64, math.MaxInt64}, {0, 0}} {
		if lo, hi := s.Span(k); lo != want[0] || hi != want[1] {
			t.Errorf("Span(%d): %d, %d, not %d", k, lo, hi, want)
		}
	}
}

// May tells of words of lines alone, not of labels, and of small forms alone.
func TestMay(t *testing.T) {
	var l []api.Record
	for i := range 8 {
		l = append(l, rec(0, uint64(i), "Err "+strings.Repeat("W", 40), "app", "web"))
	}
	for i := range 8 {
		l = append(l, rec(1, uint64(i), "", "err", "err"))
	}
	l = append(l, rec(2, 0, "err"))
	s := opened(t, written(t, l))
	for k, want := range []bool{true, false, true, false} {
		if s.May(k, "err") != want || s.May(-k-1, "err") {
			t.Errorf("May(%d, err): %t", k, s.May(k, "err"))
		}
	}
	if !s.May(0, strings.Repeat("w", 32)) || s.May(2, strings.Repeat("w", 32)) {
		t.Error("May of a long word")
	}
	checkBlocks(t, s, l, append(others, "err", "Err", "app", "web", "app=web", "err=err"))
}

// May is true just where the filter says it, also of words that no line has.
func TestMayByItsWords(t *testing.T) {
	r := rand.New(rand.NewSource(3))
	var words []string
	for i := range 3000 {
		words = append(words, shortWord(i*i))
	}
	wrong := 0
	for range 20 {
		l := plain(r.Intn(60))
		for i := range l {
			l[i].Line = strings.Join(words[r.Intn(50):][:r.Intn(9)], "-")
		}
		s := opened(t, written(t, l))
		checkBlocks(t, s, l, words)
		for k := range s.Blocks() {
			for _, w := range words[200:] {
				if s.May(k, w) {
					wrong++
				}
			}
		}
	}
	if wrong == 0 { // a filter that is never wrong isn't the chapter's
		t.Error("no word was wrongly taken for one that may be there")
	}
}

// P14.4

func TestNil(t *testing.T) {
	var s *segment.Segment
	check(t, s, nil)
	for _, i := range append(outside, 0, 1, 7, 8) {
		if r, ok := s.Record(i); ok || !same(r, api.Record{}) {
			t.Errorf("Record(%d): %v, %t", i, r, ok)
		}
		if lo, hi := s.Span(i); lo != 0 || hi != 0 || s.May(i, "x") || s.May(i, "") {
			t.Errorf("Span(%d): %d, %d", i, lo, hi)
		}
	}
	if s.Len() != 0 || s.Blocks() != 0 || len(s.All()) != 0 || len(s.Find("x")) != 0 {
		t.Error("something in nothing")
	}
}

// What only asks changes nothing.
func TestAskingChangesNothing(t *testing.T) {
	l := rows(20)
	s := opened(t, written(t, l))
	for range 3 {
		check(t, s, l)
	}
}

// roomy answers l in memory with spare room.
func roomy() []api.Record {
	room := []api.Record{
		{Time: 4, Seq: 2, Labels: labels("b", "2", "c", "3", "spare", "room")[:2], Line: "b a b"},
		{Time: 5, Seq: 3, Labels: labels("a", "1"), Line: "z"},
		{Time: 9, Seq: 1},
		{Time: 1, Seq: 4, Line: "spare"},
		{Time: 0, Seq: 5, Line: "room"},
	}
	return room[:3]
}

func TestHandedInStays(t *testing.T) {
	l, want := roomy(), roomy()
	b := written(t, l)
	c := append(bytes.Clone(b), "spare room"...)[:len(b)]
	s := opened(t, c)
	s.All()
	s.Find("b")
	segment.Write(l[:cap(l)]) // with an error
	segment.Open(c[:len(c)-1])
	for i, r := range l[:cap(l)] {
		if !same(r, want[:cap(want)][i]) {
			t.Errorf("the record %d is now %v", i, r)
		}
	}
	if x := l[0].Labels[:3][2]; x.Name != "spare" || x.Value != "room" {
		t.Errorf("the labels' spare room is now %v", x)
	}
	if string(c[:len(c)+10]) != string(b)+"spare room" {
		t.Error("the bytes were changed")
	}
}

func TestHandedInIsNotKept(t *testing.T) {
	given := []byte("xbGET a")
	view := unsafe.String(&given[0], len(given))
	l := []api.Record{rec(1, 1, view[2:], view[1:2], view), rec(4, 2, view), rec(5, 3, "", "c", "1", "d", "2")}
	want := []api.Record{rec(1, 1, "GET a", "b", "xbGET a"), rec(4, 2, "xbGET a"), rec(5, 3, "", "c", "1", "d", "2")}
	b := written(t, l)
	clear(l[2].Labels)
	l[0], l[2] = api.Record{Line: "other"}, api.Record{Time: 1}
	copy(given, "_______")
	s := opened(t, b)
	check(t, s, want)
	clear(b)
	check(t, s, want)
	if !bytes.Equal(written(t, want), written(t, s.All())) {
		t.Error("other bytes")
	}
}

// spoil writes over all of the records, their labels and their spare room.
func spoil(l []api.Record) {
	l = l[:cap(l)]
	for i := range l {
		x := l[i].Labels[:cap(l[i].Labels)]
		for j := range x {
			x[j] = api.Label{Name: "spoilt", Value: "spoilt"}
		}
		l[i] = api.Record{Time: -99, Seq: 99, Line: "spoilt"}
	}
}

func TestAnsweredIsNew(t *testing.T) {
	l := rows(20)
	b := written(t, l)
	again := written(t, l)
	s := opened(t, b)
	one, two := s.All(), s.All()
	spoil(one)
	if !slices.EqualFunc(two, l, same) {
		t.Errorf("All: %v", two)
	}
	check(t, s, l)
	r, _ := s.Record(3)
	spoil([]api.Record{r})
	check(t, s, l)
	places, more := s.Find("app=web"), s.Find("app=web")
	places = places[:cap(places)]
	for i := range places {
		places[i] = 99
	}
	if !slices.Equal(more, placesOf(l)["app=web"]) {
		t.Errorf("Find: %d", more)
	}
	check(t, s, l)
	clear(b[:cap(b)])
	if !bytes.Equal(again, written(t, l)) {
		t.Error("two answers of Write share memory")
	}
	check(t, s, l)
}

// No two lists of an answer share memory, their spare room neither.
func TestListsShareNothing(t *testing.T) {
	var l []api.Record
	for i := range 40 {
		r := rec(int64(i), uint64(i), "x")
		for j := range i % 5 {
			r.Labels = append(r.Labels, api.Label{Name: string(rune('a' + j)), Value: fmt.Sprint(i)})
		}
		l = append(l, r)
	}
	s := opened(t, written(t, l))
	for i, r := range s.All() {
		if !same(r, l[i]) {
			t.Fatalf("the record %d was changed through another one: %v", i, r)
		}
		x := r.Labels[:cap(r.Labels)]
		for j := range x {
			x[j].Name = "spoilt"
		}
	}
	check(t, s, l)
}

// Many may ask one segment at once, and write and open others.
func TestManyAtOnce(t *testing.T) {
	l := rows(50)
	b := written(t, l)
	shared := opened(t, b)
	want := placesOf(l)
	var all sync.WaitGroup
	for k := range 8 {
		all.Go(func() {
			for i := range 20 {
				own := rows(k + i)
				c, e := segment.Write(own)
				s, f := segment.Open(c)
				if e != api.OK || f != api.OK || !slices.EqualFunc(s.All(), own, same) {
					t.Errorf("of %d records: %d, %d", k+i, e, f)
					return
				}
				r, ok := shared.Record(i)
				if !ok || !same(r, l[i]) || !slices.Equal(shared.Find("p=1"), want["p=1"]) || !shared.May(k%7, "get") || !slices.EqualFunc(shared.All(), l, same) {
					t.Error("another answer")
					return
				}
			}
		})
	}
	all.Wait()
	check(t, shared, l)
}

func TestLimitsAreThoseOfTheDocument(t *testing.T) {
	if api.MaxFrame != 65536 || api.BlockLen != 8 || api.ErrArg != 1 || api.ErrMany != 3 || api.ErrForm != 6 {
		t.Errorf("%d, %d, %d, %d, %d", api.MaxFrame, api.BlockLen, api.ErrArg, api.ErrMany, api.ErrForm)
	}
}

// The chapter's examples

func TestExamples(t *testing.T) {
	s := opened(t, written(t, nil))
	if s.Len() != 0 || s.Blocks() != 0 {
		t.Errorf("of none: Len %d, Blocks %d", s.Len(), s.Blocks())
	}
	l := rows(10)
	b := written(t, l)
	s = opened(t, b)
	if s.Blocks() != 2 {
		t.Errorf("Blocks: %d", s.Blocks())
	}
	if r, ok := s.Record(9); !ok || !same(r, l[9]) {
		t.Errorf("Record(9): %v, %t", r, ok)
	}
	if _, ok := s.Record(10); ok {
		t.Error("Record(10)")
	}
	checkForm(t, b[:len(b)-1], "without the last byte")
	for bit := range 8 {
		c := bytes.Clone(b)
		c[bit*len(c)/8] ^= 1 << bit
		checkForm(t, c, "one bit turned")
	}
}
