package head_test

import (
	"fmt"
	"maps"
	"math"
	"math/rand"
	"slices"
	"strings"
	"sync"
	"testing"
	"unsafe"

	"garner/api"
	"garner/head"
	"garner/record"
	"garner/utf"
)

// The model: the chapter's words.

// model is what a head has, as it was added, and all Seqs that were added ever.
type model struct {
	l    []api.Record
	seqs []uint64
}

// termsOf answers the terms of r.
func termsOf(r api.Record) []string {
	terms := map[string]bool{}
	for _, x := range r.Labels {
		terms[x.Name+"="+x.Value] = true
	}
	for _, run := range strings.FieldsFunc(r.Line, func(c rune) bool { return !utf.Word(c) }) {
		w := ""
		for i, c := range []rune(run) {
			if i < 32 {
				w += string(utf.Small(c))
			}
		}
		terms[w] = true
	}
	return slices.Sorted(maps.Keys(terms))
}

// add answers what Add(l...) does, and does it.
func (m *model) add(l ...api.Record) api.Errno {
	for _, r := range l {
		if e := record.Check(r); e != 0 {
			return e
		}
	}
	seqs := slices.Clone(m.seqs)
	for _, r := range l {
		if slices.ContainsFunc(seqs, func(s uint64) bool { return s >= r.Seq }) {
			return api.ErrForm
		}
		seqs = append(seqs, r.Seq)
	}
	if len(m.l)+len(l) > 65536 {
		return api.ErrMany
	}
	m.l, m.seqs = append(m.l, l...), seqs
	return 0
}

// all answers the records in their order: each has as many ahead of it as are lesser.
func (m *model) all() []api.Record {
	all := make([]api.Record, len(m.l))
	for _, r := range m.l {
		place := 0
		for _, x := range m.l {
			if x.Time < r.Time || x.Time == r.Time && x.Seq < r.Seq {
				place++
			}
		}
		all[place] = r
	}
	return all
}

// places answers by each term the places of the records that have it.
func (m *model) places() map[string][]uint64 {
	places := map[string][]uint64{}
	for i, r := range m.all() {
		for _, term := range termsOf(r) {
			places[term] = append(places[term], uint64(i))
		}
	}
	return places
}

// others are terms that records of the tests don't have, or seldom.
var others = []string{"", "=", "a", "a=", "a=1", "A", "A=1", "=1", "1", "GET", " get", "get ", "none", "\xff", "\ufffd", "a=1 ", "b", strings.Repeat("w", 33)}

// check holds all that h tells against the model.
func (m *model) check(t *testing.T, h *head.Head) {
	t.Helper()
	if n := h.Len(); n != len(m.l) {
		t.Fatalf("Len: %d, not %d", n, len(m.l))
	}
	if l := h.All(); !slices.EqualFunc(l, m.all(), same) {
		t.Fatalf("All: %v, not %v", l, m.all())
	}
	places := m.places()
	for _, term := range append(slices.Sorted(maps.Keys(places)), others...) {
		if l, want := h.Find(term), places[term]; !slices.Equal(l, want) {
			t.Fatalf("Find(%q): %d, not %d, of %v", term, l, want, m.all())
		}
	}
}

// checkAdd adds l to both, and holds one against the other; it answers the error.
func (m *model) checkAdd(t *testing.T, h *head.Head, l ...api.Record) api.Errno {
	t.Helper()
	want := m.add(l...)
	if e := h.Add(l...); e != want {
		t.Fatalf("Add(%v): %d, not %d", l, e, want)
	}
	m.check(t, h)
	return want
}

// checkTake takes from both, and holds one against the other.
func (m *model) checkTake(t *testing.T, h *head.Head) {
	t.Helper()
	if l := h.Take(); !slices.EqualFunc(l, m.all(), same) {
		t.Fatalf("Take: %v, not %v", l, m.all())
	}
	m.l = nil
	m.check(t, h)
}

// same tells whether a and b are one record.
func same(a, b api.Record) bool {
	return a.Time == b.Time && a.Seq == b.Seq && a.Line == b.Line && slices.Equal(a.Labels, b.Labels)
}

// labels answers labels of names and values in turn.
func labels(l ...string) []api.Label {
	var all []api.Label
	for i := 0; i < len(l); i += 2 {
		all = append(all, api.Label{Name: l[i], Value: l[i+1]})
	}
	return all
}

// rec answers a record.
func rec(time int64, seq uint64, line string, names ...string) api.Record {
	return api.Record{Time: time, Seq: seq, Labels: labels(names...), Line: line}
}

// plain answers n records without labels and lines, of rising Seqs from the first on, all of one time.
func plain(n int, first uint64) []api.Record {
	l := make([]api.Record, n)
	for i := range l {
		l[i].Seq = first + uint64(i)
	}
	return l
}

// with answers a head to which l was added.
func with(t *testing.T, l ...api.Record) *head.Head {
	t.Helper()
	h := head.New()
	if e := h.Add(l...); e != 0 {
		t.Fatalf("Add(%v): %d", l, e)
	}
	return h
}

// copies answers the records in memory of their own, but for their texts.
func copies(l []api.Record) []api.Record {
	l = slices.Clone(l)
	for i := range l {
		l[i].Labels = slices.Clone(l[i].Labels)
	}
	return l
}

// noise answers a line by chance.
func noise(r *rand.Rand) string {
	pieces := []string{"GET", "get", "/api/v1", "code=500", "user_id", "_", "7", "a", "A", "=", " ", "-", "\u00c9t\u00e9", "\u041c\u0418\u0420", "\u00d7", "\u2014", "\ufffd", "\xff", "\xc3", "\U0001f600", strings.Repeat("w", 31), strings.Repeat("W", 40)}
	s := ""
	for range r.Intn(12) {
		s += pieces[r.Intn(len(pieces))]
	}
	return s
}

// P13.1

func TestTermsOfKnownRecords(t *testing.T) {
	for _, c := range []struct {
		r    api.Record
		want []string
	}{
		{rec(0, 0, ""), nil},
		{rec(-9, 7, ""), nil},
		{rec(0, 0, " -./:\u2014"), nil},
		{rec(0, 0, "GET get x", "a", "1"), []string{"a=1", "get", "x"}},
		{rec(5, 9, "GET get x", "a", "1"), []string{"a=1", "get", "x"}},
		{rec(0, 0, "b a c b"), []string{"a", "b", "c"}},
		{rec(0, 0, "", "b", "1", "c", "2"), []string{"b=1", "c=2"}},
		{rec(0, 0, "x", "a", ""), []string{"a=", "x"}},
		{rec(0, 0, "a=1", "a", "1"), []string{"1", "a", "a=1"}},
		{rec(0, 0, "Ab", "a", "Ab CD=ef"), []string{"a=Ab CD=ef", "ab"}}, // a value stays as it is, and is no line
		{rec(0, 0, "a1 a _ b", "a", "1"), []string{"_", "a", "a1", "a=1", "b"}},
		{rec(0, 0, "a_ \u00e9 z", "a", "\u00e9", "a_", "\u00e9"), []string{"a=\u00e9", "a_", "a_=\u00e9", "z", "\u00e9"}},
		{rec(0, 0, "a ab", "a", "", "ab", "", "b", ""), []string{"a", "a=", "ab", "ab=", "b="}},
		{rec(0, 0, "\u041c\u0418\u0420 \U00010000 \uffff"), []string{"\u043c\u0438\u0440", "\uffff", "\U00010000"}},
		{rec(0, 0, strings.Repeat("W", 40)+" "+strings.Repeat("w", 33)), []string{strings.Repeat("w", 32)}},
		{rec(0, 0, strings.Repeat("w", 31)+" "+strings.Repeat("w", 32)), []string{strings.Repeat("w", 31), strings.Repeat("w", 32)}},
		{rec(0, 0, "", "a", strings.Repeat("w", 256)), []string{"a=" + strings.Repeat("w", 256)}}, // only words are cut
	} {
		if l := head.Terms(c.r); !slices.Equal(l, c.want) {
			t.Errorf("Terms(%v): %q, not %q", c.r, l, c.want)
		}
	}
}

// What is no record has terms too.
func TestTermsOfWhatIsNoRecord(t *testing.T) {
	for _, c := range []struct {
		r    api.Record
		want []string
	}{
		{rec(0, 0, "\xff"), nil},
		{rec(0, 0, "a\xffb\xc3"), []string{"a", "b"}},
		{rec(0, 0, "", "", ""), []string{"="}},
		{rec(0, 0, "", "b", "2", "a", "1"), []string{"a=1", "b=2"}},
		{rec(0, 0, "", "a", "1", "a", "1"), []string{"a=1"}},
		{rec(0, 0, "", "a", "2", "a", "1"), []string{"a=1", "a=2"}},
		{rec(0, 0, "", "a=b", "c", "a", "b=c"), []string{"a=b=c"}},
		{rec(0, 0, "A", "A", "\xff", "\xff", ""), []string{"A=\xff", "a", "\xff="}},
		{rec(0, 0, "", strings.Repeat("n", 100), strings.Repeat("V", 1000)), []string{strings.Repeat("n", 100) + "=" + strings.Repeat("V", 1000)}},
		{rec(0, 0, strings.Repeat("b a ", 5000)), []string{"a", "b"}},
		{api.Record{Labels: slices.Repeat(labels("b", "", "a", ""), 500)}, []string{"a=", "b="}},
	} {
		if l := head.Terms(c.r); !slices.Equal(l, c.want) {
			t.Errorf("Terms(%v): %q, not %q", c.r, l, c.want)
		}
	}
}

func TestTermsByTheirWords(t *testing.T) {
	r := rand.New(rand.NewSource(1))
	for range 5000 {
		x := api.Record{Time: r.Int63() - r.Int63(), Seq: r.Uint64(), Line: noise(r)}
		for range r.Intn(4) {
			x.Labels = append(x.Labels, api.Label{Name: noise(r), Value: noise(r)})
		}
		if l, want := head.Terms(x), termsOf(x); !slices.Equal(l, want) {
			t.Errorf("Terms(%q): %q, not %q", x.Line, l, want)
		}
	}
}

func TestNew(t *testing.T) {
	h := head.New()
	if h == nil {
		t.Fatal("nil")
	}
	(&model{}).check(t, h)
	(&model{}).checkTake(t, h)
}

// A head has nothing to do with another.
func TestHeadsAlone(t *testing.T) {
	a, b := head.New(), head.New()
	var m, n model
	m.checkAdd(t, a, rec(5, 7, "x", "a", "1"), rec(4, 8, "x y"))
	n.check(t, b)
	n.checkAdd(t, b, rec(9, 1, "x z"))
	m.check(t, a)
	m.checkTake(t, a)
	n.check(t, b)
	n.checkAdd(t, b, rec(9, 2, "x z"))
}

// P13.2

// faulty are what may not be records, and why.
var faulty = []struct {
	r    api.Record
	want api.Errno
}{
	{api.Record{Labels: make([]api.Label, 17)}, api.ErrMany},
	{rec(0, 0, "", "A", "1"), api.ErrForm},
	{rec(0, 0, "", "", ""), api.ErrForm},
	{rec(0, 0, "", "a", strings.Repeat("v", 257)), api.ErrLong},
	{rec(0, 0, "", "a", "\xff"), api.ErrUtf},
	{rec(0, 0, "", "a", "1", "a", "2"), api.ErrForm},
	{rec(0, 0, "", "b", "1", "a", "2"), api.ErrForm},
	{rec(0, 0, strings.Repeat("l", 1025)), api.ErrLong},
	{rec(0, 0, "\xff"), api.ErrUtf},
}

func TestAddOfWhatIsNoRecord(t *testing.T) {
	for _, c := range faulty {
		for at := range 4 {
			for _, first := range []uint64{1, 50} { // Seqs that may be, and such that may not: Check's error comes first
				h, m := head.New(), &model{}
				m.checkAdd(t, h, rec(1, 10, "x", "a", "1"), rec(0, 20, "y"))
				l := plain(4, first)
				l[at].Labels, l[at].Line = c.r.Labels, c.r.Line
				if e := h.Add(l...); e != c.want {
					t.Errorf("Add with a fault at the place %d, Seqs from %d on: %d, not %d", at, first, e, c.want)
				}
				m.check(t, h)
				m.checkAdd(t, h, rec(2, 21, "x"))
			}
		}
	}
}

// Of several faults that of the first record is told, and each ahead of what is wrong with the Seqs.
func TestAddOfSeveralFaults(t *testing.T) {
	for _, a := range faulty {
		for _, b := range faulty {
			h := with(t, rec(0, 9, ""))
			for _, l := range [][]api.Record{{a.r, b.r}, {rec(0, 1, ""), rec(0, 1, ""), a.r, b.r, rec(0, 0, "")}} {
				if e := h.Add(l...); e != a.want || h.Len() != 1 {
					t.Errorf("Add of two faults: %d, not %d", e, a.want)
				}
			}
		}
	}
}

func TestSeqs(t *testing.T) {
	for _, c := range []struct {
		seqs []uint64
		want api.Errno
	}{
		{nil, 0},
		{[]uint64{11}, 0},
		{[]uint64{12}, 0},
		{[]uint64{11, 12, 13}, 0},
		{[]uint64{11, 100, 1 << 40, 1 << 63, math.MaxUint64}, 0},
		{[]uint64{math.MaxUint64}, 0},
		{[]uint64{0}, api.ErrForm},
		{[]uint64{1}, api.ErrForm}, // lesser than all, or between two
		{[]uint64{5}, api.ErrForm},
		{[]uint64{6}, api.ErrForm},
		{[]uint64{9}, api.ErrForm},
		{[]uint64{10}, api.ErrForm},
		{[]uint64{10, 11}, api.ErrForm},
		{[]uint64{11, 11}, api.ErrForm},
		{[]uint64{12, 11}, api.ErrForm},
		{[]uint64{11, 10}, api.ErrForm},
		{[]uint64{11, 12, 13, 13}, api.ErrForm},
		{[]uint64{11, 14, 12, 13}, api.ErrForm}, // greater than the one ahead isn't enough
		{[]uint64{11, 12, 0}, api.ErrForm},
		{[]uint64{math.MaxUint64, 0}, api.ErrForm},
		{[]uint64{math.MaxUint64, math.MaxUint64}, api.ErrForm},
		{[]uint64{1 << 63, 11}, api.ErrForm},
	} {
		h, m := head.New(), &model{}
		m.checkAdd(t, h, rec(7, 5, "x"), rec(3, 10, "x"))
		var l []api.Record
		for i, s := range c.seqs {
			l = append(l, rec(int64(-i), s, "x"))
		}
		if want := (&model{seqs: []uint64{5, 10}}).add(l...); want != c.want {
			t.Errorf("the model says of %d: %d", c.seqs, want)
		}
		m.checkAdd(t, h, l...)
		m.checkAdd(t, h, rec(9, 20, "y")) // what had an error doesn't count
	}
}

func TestFirstSeqMayBeAny(t *testing.T) {
	for _, s := range []uint64{0, 1, 2, 1 << 32, 1 << 63, math.MaxUint64} {
		h, m := head.New(), &model{}
		m.checkAdd(t, h, rec(0, s, ""))
		for _, next := range []uint64{0, s - 1, s, s + 1} {
			m.checkAdd(t, h, rec(0, next, ""))
		}
	}
	h, m := head.New(), &model{}
	m.checkAdd(t, h, rec(0, 0, "\xff")) // one that wasn't added leaves it so
	m.checkAdd(t, h, rec(0, 5, ""), rec(0, 5, ""))
	m.checkAdd(t, h)
	m.checkTake(t, h)
	m.checkAdd(t, h, rec(0, 0, ""), rec(0, 1, ""))
}

func TestSeqsBehindTake(t *testing.T) {
	h, m := head.New(), &model{}
	m.checkAdd(t, h, rec(0, 0, ""))
	m.checkTake(t, h)
	m.checkAdd(t, h, rec(0, 0, "")) // a 0 that was taken counts
	m.checkAdd(t, h, rec(9, 5, ""), rec(1, 6, ""))
	m.checkTake(t, h)
	m.checkTake(t, h)
	for _, s := range []uint64{0, 1, 5, 6} {
		if e := h.Add(rec(20, s, "")); e != api.ErrForm {
			t.Errorf("Add of a Seq %d behind 6: %d", s, e)
		}
	}
	m.checkAdd(t, h, rec(0, 7, ""))
	m.checkAdd(t, h, rec(0, math.MaxUint64, ""))
	m.checkTake(t, h)
	m.checkAdd(t, h, rec(0, 0, ""))
	m.checkAdd(t, h, rec(0, math.MaxUint64, ""))
	m.checkAdd(t, h)
}

func TestAddOfNone(t *testing.T) {
	h, m := head.New(), &model{}
	for range 3 {
		m.checkAdd(t, h)
		m.checkAdd(t, h, []api.Record{}...)
		m.checkAdd(t, h, rec(0, m.next(), "x"))
	}
}

// next answers a Seq that may be the next one.
func (m *model) next() uint64 {
	return uint64(len(m.seqs))
}

func TestMostRecords(t *testing.T) {
	for _, sizes := range [][]int{{65536}, {65535, 1}, {1, 65535}, {0, 32768, 32768, 0}, {60000, 5000, 500, 36}} {
		h := head.New()
		n := 0
		for _, size := range sizes {
			if e := h.Add(plain(size, uint64(n))...); e != 0 {
				t.Fatalf("%d: %d behind %d: %d", sizes, size, n, e)
			}
			n += size
		}
		checkFull(t, h)
		if l := h.Take(); len(l) != 65536 || h.Len() != 0 {
			t.Fatalf("Take: %d, and %d are left", len(l), h.Len())
		}
		if e := h.Add(plain(65537, 70000)...); e != api.ErrMany || h.Len() != 0 {
			t.Errorf("Add of 65537 behind Take: %d", e)
		}
		if e := h.Add(plain(65536, 65536)...); e != 0 { // what was taken counts no more
			t.Fatalf("Add of 65536 behind Take: %d", e)
		}
		if e := h.Add(rec(0, 1<<40, "")); e != api.ErrMany || h.Len() != 65536 {
			t.Errorf("Add of one behind 65536: %d", e)
		}
	}
}

// checkFull checks what a head answers that has records of the Seqs 0 to 65535.
func checkFull(t *testing.T, h *head.Head) {
	t.Helper()
	broken := rec(0, 70000, "\xff")
	for _, c := range []struct {
		l    []api.Record
		want api.Errno
	}{
		{nil, 0},
		{plain(1, 65536), api.ErrMany},
		{plain(2, 65536), api.ErrMany},
		{plain(65536, 65536), api.ErrMany},
		{plain(1<<17, 65536), api.ErrMany},
		{plain(1, 65535), api.ErrForm}, // it comes ahead of ErrMany
		{append(plain(9, 65536), rec(0, 65540, "")), api.ErrForm},
		{append(plain(65537, 65536), rec(0, 0, "")), api.ErrForm},
		{[]api.Record{broken}, api.ErrUtf},
		{append(plain(65537, 0), broken), api.ErrUtf},
	} {
		if e := h.Add(c.l...); e != c.want {
			t.Errorf("Add of %d to 65536: %d, not %d", len(c.l), e, c.want)
		}
		if h.Len() != 65536 {
			t.Fatalf("Len: %d", h.Len())
		}
	}
	for i, r := range h.All() {
		if r.Seq != uint64(i) {
			t.Fatalf("the Seq %d at the place %d", r.Seq, i)
		}
	}
}

func TestTooManyAtOnce(t *testing.T) {
	for _, ahead := range []int{0, 1, 2, 65535} {
		h := with(t, plain(ahead, 0)...)
		for _, n := range []int{65537 - ahead, 65538 - ahead, 65537, 1 << 17} {
			l := plain(n, uint64(ahead))
			if e := h.Add(l...); e != api.ErrMany || h.Len() != ahead {
				t.Errorf("Add of %d behind %d: %d", n, ahead, e)
			}
			l[n-1].Seq = l[n-2].Seq
			if e := h.Add(l...); e != api.ErrForm || h.Len() != ahead {
				t.Errorf("Add of %d behind %d, the last Seq twice: %d", n, ahead, e)
			}
		}
		if e := h.Add(plain(65536-ahead, uint64(ahead))...); e != 0 || h.Len() != 65536 { // none of those counts
			t.Errorf("Add of what is left behind %d: %d", ahead, e)
		}
	}
}

// P13.3

// line answers a line with a word of its own, one that all lines have, and one that every second has.
func line(i int) string {
	return fmt.Sprintf("n%d all m%d", i, i%2)
}

// Five records of up to three times, in all orders, in all rows of batches.
func TestAllOrders(t *testing.T) {
	const n = 5
	for code := range 243 {
		var l []api.Record
		for i := range n {
			l = append(l, rec(int64(code%3), uint64(i), line(i), "t", fmt.Sprint(code%3)))
			code /= 3
		}
		for cuts := range 1 << (n - 1) {
			h, m := head.New(), &model{}
			from := 0
			for i := range n {
				if i == n-1 || cuts>>i&1 == 1 {
					m.checkAdd(t, h, l[from:i+1]...)
					from = i + 1
				}
			}
		}
	}
}

// Every order of six times that all differ, as one batch, one by one, and in two halves.
func TestAllRowsOfTimes(t *testing.T) {
	var lay func(times []int64)
	lay = func(times []int64) {
		if len(times) < 6 {
			for x := range int64(6) {
				if !slices.Contains(times, x-3) {
					lay(append(times, x-3))
				}
			}
			return
		}
		var l []api.Record
		for i, x := range times {
			l = append(l, rec(x, uint64(i), line(i)))
		}
		for _, size := range []int{1, 3, 6} {
			h, m := head.New(), &model{}
			for part := range slices.Chunk(l, size) {
				m.add(part...)
				h.Add(part...)
			}
			m.check(t, h)
		}
	}
	lay(nil)
}

func TestTimesAtTheEnds(t *testing.T) {
	h, m := head.New(), &model{}
	for i, x := range []int64{0, math.MaxInt64, math.MinInt64, -1, 1, math.MaxInt64, math.MinInt64, math.MaxInt64 - 1, math.MinInt64 + 1, 1 << 32, -1 << 32, 0} {
		m.checkAdd(t, h, rec(x, uint64(i), line(i)))
	}
	m.checkTake(t, h)
}

// Of one time the Seq decides, by its 64 bits.
func TestSeqsAtTheEnds(t *testing.T) {
	h, m := head.New(), &model{}
	m.checkAdd(t, h, rec(4, 0, "a"), rec(4, 1, "b"), rec(4, 1<<63-1, "c"), rec(4, 1<<63, "d"))
	m.checkAdd(t, h, rec(3, 1<<63+1, "a d"), rec(4, math.MaxUint64-1, "b c"), rec(4, math.MaxUint64, "a"))
	m.checkTake(t, h)
}

func TestFind(t *testing.T) {
	h := with(t,
		rec(9, 1, "GET /a code=500 "+strings.Repeat("W", 40), "app", "web", "env", ""),
		rec(2, 2, "get get b", "app", "Web"),
		rec(9, 4, "\u041c\u0418\u0420", "app", "web"),
		rec(-5, 7, "web", "web", "app"),
	)
	for _, c := range []struct {
		term string
		want []uint64
	}{
		{"get", []uint64{1, 2}}, {"GET", nil}, {"ge", nil}, {"gett", nil}, {" get", nil},
		{"app=web", []uint64{2, 3}}, {"app=Web", []uint64{1}}, {"app=", nil}, {"app", nil}, {"=web", nil}, {"app=we", nil},
		{"web", []uint64{0}}, {"web=app", []uint64{0}}, {"env=", []uint64{2}}, {"env", nil},
		{"code", []uint64{2}}, {"500", []uint64{2}}, {"code=500", nil}, {"a", []uint64{2}}, {"b", []uint64{1}}, {"/a", nil},
		{strings.Repeat("w", 32), []uint64{2}}, {strings.Repeat("w", 31), nil}, {strings.Repeat("w", 33), nil}, {strings.Repeat("W", 40), nil},
		{"\u043c\u0438\u0440", []uint64{3}}, {"\u041c\u0418\u0420", nil}, {"", nil}, {"=", nil}, {"\xff", nil}, {strings.Repeat("get ", 1<<16), nil},
	} {
		if l := h.Find(c.term); !slices.Equal(l, c.want) {
			t.Errorf("Find(%q): %d, not %d", c.term, l, c.want)
		}
	}
}

// A place is told as it is now: it changes when a record comes ahead of it.
func TestPlacesMove(t *testing.T) {
	h := head.New()
	for i := range 100 {
		if e := h.Add(rec(int64(-i), uint64(i), fmt.Sprintf("n%d even%d", i, i%2))); e != 0 {
			t.Fatal(e)
		}
		for j := range i + 1 {
			if l := h.Find(fmt.Sprintf("n%d", j)); !slices.Equal(l, []uint64{uint64(i - j)}) {
				t.Fatalf("the record %d of %d: %d", j, i+1, l)
			}
		}
		for _, l := range [][]uint64{h.Find("even0"), h.Find("even1")} {
			if !slices.IsSorted(l) {
				t.Fatalf("%d", l)
			}
		}
	}
}

func TestTake(t *testing.T) {
	h, m := head.New(), &model{}
	m.checkTake(t, h)
	for range 4 {
		n := m.next()
		m.checkAdd(t, h, rec(7, n, "x y", "a", "1"), rec(3, n+1, "y z"))
		m.checkAdd(t, h, rec(5, n+2, "x"))
		m.checkTake(t, h) // terms of what was taken are gone
		m.checkTake(t, h)
	}
}

// What only asks changes nothing.
func TestAskingChangesNothing(t *testing.T) {
	h, m := head.New(), &model{}
	m.checkAdd(t, h, rec(7, 1, "x y", "a", "1"), rec(3, 2, "y z"), rec(7, 4, "z"), rec(1, 5, ""))
	for range 3 {
		h.Find("y")
		h.Find("none")
		h.All()
		h.Len()
		m.check(t, h)
	}
	m.checkAdd(t, h, rec(3, 6, "y none"))
}

func TestScripts(t *testing.T) {
	count := map[api.Errno]int{}
	for seed := range int64(150) {
		r := rand.New(rand.NewSource(seed))
		h, m := head.New(), &model{}
		seq, span := uint64(r.Intn(2)), 1+r.Intn(20)
		for range 25 {
			if r.Intn(8) == 0 {
				m.checkTake(t, h)
				continue
			}
			var l []api.Record
			next := seq
			for range r.Intn(5) {
				x := rec(int64(r.Intn(span)), next, noise(r))
				if r.Intn(2) == 0 {
					x.Labels = labels("a", fmt.Sprint(r.Intn(3)))
				}
				if r.Intn(60) == 0 {
					x.Seq -= min(x.Seq, uint64(r.Intn(3))+1)
				}
				if r.Intn(50) > 0 { // else it stays what may be no record
					x.Line = strings.ToValidUTF8(x.Line, "?")
				}
				l = append(l, x)
				next += 1 + uint64(r.Intn(2))*uint64(r.Intn(9))
			}
			count[m.checkAdd(t, h, l...)]++
			if len(m.seqs) > 0 {
				seq = m.seqs[len(m.seqs)-1] + 1
			}
		}
	}
	for _, e := range []api.Errno{0, api.ErrForm, api.ErrUtf} {
		if count[e] < 20 {
			t.Errorf("%d of error %d: too few", count[e], e)
		}
	}
}

// The rows that take longest: records that come one by one, each ahead of all, and such that have much in common.
func TestManyRecords(t *testing.T) {
	const n = 65536
	h := head.New()
	for i := range n {
		if e := h.Add(rec(int64(-i), uint64(i), "all "+line(i), "a", "1")); e != 0 {
			t.Fatal(e)
		}
	}
	checkMany(t, h, func(i int) int { return n - 1 - i })
	l := h.Take()
	for i := range l { // now all at once, the even ones ahead
		l[i].Time, l[i].Seq, l[i].Line = int64(i%2), uint64(n+i), "all "+line(i)
	}
	if e := h.Add(l...); e != 0 {
		t.Fatal(e)
	}
	checkMany(t, h, func(i int) int { return i/2 + i%2*(n/2) })
}

// checkMany checks what is found in a head of 65536 records, of which the i-th that came is at the place that place tells.
func checkMany(t *testing.T, h *head.Head, place func(i int) int) {
	t.Helper()
	const n = 65536
	all := make([]uint64, n)
	var odd []uint64
	for i := range n {
		all[i] = uint64(i)
		if i%2 == 1 {
			odd = append(odd, uint64(place(i)))
		}
		if i%97 == 0 {
			if l := h.Find(fmt.Sprintf("n%d", i)); !slices.Equal(l, []uint64{uint64(place(i))}) {
				t.Fatalf("the record %d: %d", i, l)
			}
		}
	}
	slices.Sort(odd)
	if !slices.Equal(h.Find("all"), all) || !slices.Equal(h.Find("a=1"), all) || !slices.Equal(h.Find("m1"), odd) {
		t.Error("what many have")
	}
	l := h.All()
	if len(l) != n || !slices.IsSortedFunc(l, record.Compare) {
		t.Errorf("All: %d", len(l))
	}
}

// P13.4

func TestNil(t *testing.T) {
	var h *head.Head
	for _, l := range [][]api.Record{nil, {{}}, {rec(1, 1, "x", "a", "1")}, {rec(0, 0, "\xff")}, {{}, {}}, plain(65537, 0)} {
		if e := h.Add(l...); e != api.ErrNil {
			t.Errorf("Add of %d: %d", len(l), e)
		}
	}
	if n := h.Len(); n != 0 {
		t.Errorf("Len: %d", n)
	}
	if l := h.All(); len(l) != 0 {
		t.Errorf("All: %v", l)
	}
	for _, term := range append(others, "x") {
		if l := h.Find(term); len(l) != 0 {
			t.Errorf("Find(%q): %d", term, l)
		}
	}
	if l := h.Take(); len(l) != 0 {
		t.Errorf("Take: %v", l)
	}
}

// roomy answers l in memory with spare room.
func roomy() []api.Record {
	room := []api.Record{
		{Time: 9, Seq: 1, Labels: labels("b", "2", "c", "3", "spare", "room")[:2], Line: "b a b"},
		{Time: 4, Seq: 2, Labels: labels("a", "1"), Line: "z"},
		{Time: 5, Seq: 3},
		{Time: 1, Seq: 4, Line: "spare"},
		{Time: 0, Seq: 5, Line: "room"},
	}
	return room[:3]
}

// checkKept checks that l and its spare room hold what roomy put there.
func checkKept(t *testing.T, l []api.Record) {
	t.Helper()
	want := roomy()
	for i, r := range l[:cap(l)] {
		if !same(r, want[:cap(want)][i]) {
			t.Errorf("the record %d is now %v", i, r)
		}
	}
	if x := l[0].Labels[:3][2]; x.Name != "spare" || x.Value != "room" {
		t.Errorf("the labels' spare room is now %v", x)
	}
}

func TestHandedInStays(t *testing.T) {
	l := roomy()
	h := head.New()
	for range 2 { // the second time with an error
		for _, r := range l {
			head.Terms(r)
		}
		h.Add(l...)
		h.Add(rec(0, 6, "later"), rec(6, 7, "later"))
		h.All()
		h.Find("b")
		checkKept(t, l)
	}
	h.Take()
	checkKept(t, l)
}

func TestHandedInIsNotKept(t *testing.T) {
	given := []byte("xbGET a")
	view := unsafe.String(&given[0], len(given))
	l := []api.Record{rec(9, 1, view[2:], view[1:2], view), rec(4, 2, view), rec(5, 3, "", "c", "1", "d", "2")}
	m := &model{}
	for _, r := range l {
		r.Line = strings.Clone(r.Line)
		r.Labels = slices.Clone(r.Labels)
		for i, x := range r.Labels {
			r.Labels[i] = api.Label{Name: strings.Clone(x.Name), Value: strings.Clone(x.Value)}
		}
		m.add(r)
	}
	h := with(t, l...)
	terms, want := head.Terms(l[0]), termsOf(m.l[0])
	clear(l[2].Labels)
	l[0], l[2] = api.Record{Line: "other"}, api.Record{Time: 1}
	copy(given, "_______")
	m.check(t, h)
	if !slices.Equal(terms, want) {
		t.Errorf("Terms: %q, not %q", terms, want)
	}
	m.checkTake(t, h)
}

// spoil writes over all of the records, their labels and their spare room.
func spoil(l []api.Record) {
	l = l[:cap(l)]
	for i := range l {
		x := l[i].Labels[:cap(l[i].Labels)]
		for j := range x {
			x[j] = api.Label{Name: "spoilt", Value: "spoilt"}
		}
		l[i] = api.Record{Time: -99, Seq: 99, Line: "spoilt"}
	}
}

func TestAnsweredIsNew(t *testing.T) {
	h, m := head.New(), &model{}
	m.checkAdd(t, h, rec(9, 1, "b a b", "b", "2", "c", "3"), rec(4, 2, "z", "b", "2"), rec(5, 3, "a"), rec(5, 4, "a"), rec(5, 5, "a"))
	one, two := h.All(), h.All()
	spoil(one)
	if !slices.EqualFunc(two, m.all(), same) {
		t.Errorf("All: %v", two)
	}
	m.check(t, h)
	places := h.Find("a")
	again := h.Find("a")
	places = places[:cap(places)]
	for i := range places {
		places[i] = 99
	}
	if !slices.Equal(again, m.places()["a"]) {
		t.Errorf("Find: %d", again)
	}
	m.check(t, h)
	taken := h.Take()
	if !slices.EqualFunc(two, taken, same) {
		t.Errorf("Take: %v", taken)
	}
	spoil(two)
	if !slices.EqualFunc(taken, m.all(), same) {
		t.Errorf("what was taken: %v", taken)
	}
	m.l = nil
	m.checkAdd(t, h, rec(3, 6, "b", "b", "2"), rec(1, 7, "b"))
	spoil(taken)
	m.check(t, h)
}

// No two lists of an answer share memory, their spare room neither.
func TestListsShareNothing(t *testing.T) {
	var l []api.Record
	for i := range 40 {
		r := rec(int64(i%7), uint64(i), "x")
		for j := range i % 5 {
			r.Labels = append(r.Labels, api.Label{Name: string(rune('a' + j)), Value: fmt.Sprint(i)})
		}
		l = append(l, r)
	}
	m := &model{}
	m.add(l...)
	h := with(t, l...)
	for _, answer := range [][]api.Record{h.All(), h.Take()} {
		want := m.all()
		for i, r := range answer {
			if !same(r, want[i]) {
				t.Fatalf("the record %d was changed through another one: %v", i, r)
			}
			x := r.Labels[:cap(r.Labels)]
			for j := range x {
				x[j].Name = "spoilt"
			}
		}
	}
	for _, r := range l {
		if slices.ContainsFunc(r.Labels, func(x api.Label) bool { return x.Name == "spoilt" }) {
			t.Fatal("what was handed in was changed through an answer")
		}
	}
}

func TestTermsAreNewMemory(t *testing.T) {
	r := rec(9, 1, "b a b", "b", "2", "c", "3")
	want := termsOf(r)
	one, two := head.Terms(r), head.Terms(r)
	one = one[:cap(one)]
	for i := range one {
		one[i] = "spoilt"
	}
	if !slices.Equal(two, want) || !slices.Equal(head.Terms(r), want) || !same(r, rec(9, 1, "b a b", "b", "2", "c", "3")) {
		t.Errorf("%q, %v", two, r)
	}
}

// Records that are added again behind a change are as they were then: All may be handed back.
func TestAnswersMayBeHandedIn(t *testing.T) {
	h, m := head.New(), &model{}
	m.checkAdd(t, h, rec(9, 1, "b", "b", "2"), rec(4, 2, "z"))
	l := h.Take()
	m.l = nil
	for i := range l {
		l[i].Seq = uint64(10 + i)
	}
	m.checkAdd(t, h, copies(l)...)
	spoil(l)
	m.check(t, h)
	l = h.All()
	for i := range l {
		l[i].Seq += 10
	}
	m.checkAdd(t, h, copies(l)...)
	spoil(l)
	m.check(t, h)
}

// Many may ask one head at once, since asking changes nothing.
func TestManyAtOnce(t *testing.T) {
	shared, m := head.New(), &model{}
	r := rand.New(rand.NewSource(3))
	for i := range 60 {
		if e := shared.Add(rec(int64(r.Intn(9)), uint64(i), line(i), "a", fmt.Sprint(i%3))); e != 0 {
			t.Fatal(e)
		}
		m.add(rec(0, uint64(i), ""))
	}
	m.l = shared.All()
	want := m.places()["all"]
	var all sync.WaitGroup
	for k := range 8 {
		all.Go(func() {
			own, n := head.New(), &model{}
			for i := range uint64(20) {
				l := []api.Record{rec(int64(k), 2*i, line(k)), rec(0, 2*i+1, "x")}
				n.add(l...)
				own.Add(l...)
				if !slices.Equal(own.Find("all"), n.places()["all"]) || !slices.Equal(shared.Find("all"), want) || !slices.EqualFunc(shared.All(), m.l, same) || shared.Len() != 60 {
					t.Error("another answer")
					return
				}
			}
		})
	}
	all.Wait()
	m.check(t, shared)
}

func TestLimitsAreThoseOfTheDocument(t *testing.T) {
	if api.MaxFrame != 65536 || api.MaxWord != 32 || api.ErrNil != 2 || api.ErrMany != 3 || api.ErrForm != 6 {
		t.Errorf("%d, %d, %d, %d, %d", api.MaxFrame, api.MaxWord, api.ErrNil, api.ErrMany, api.ErrForm)
	}
}

// The chapter's examples

func TestExamples(t *testing.T) {
	if l := head.Terms(rec(0, 0, "GET get x", "a", "1")); !slices.Equal(l, []string{"a=1", "get", "x"}) {
		t.Errorf("Terms: %q", l)
	}
	h := head.New()
	if e := h.Add(rec(5, 1, "b"), rec(3, 2, "a b")); e != 0 {
		t.Errorf("Add: %d", e)
	}
	if l := h.All(); len(l) != 2 || !same(l[0], rec(3, 2, "a b")) || !same(l[1], rec(5, 1, "b")) {
		t.Errorf("All: %v", l)
	}
	for term, want := range map[string][]uint64{"b": {0, 1}, "a": {0}, "c": nil} {
		if l := h.Find(term); !slices.Equal(l, want) {
			t.Errorf("Find(%s): %d", term, l)
		}
	}
	if e := h.Add(rec(0, 2, "")); e != api.ErrForm {
		t.Errorf("Add of a Seq 2: %d", e)
	}
	if l := h.Take(); len(l) != 2 || h.Len() != 0 {
		t.Errorf("Take: %v, Len: %d", l, h.Len())
	}
	if e := h.Add(rec(0, 2, "")); e != api.ErrForm {
		t.Errorf("Add of a Seq 2 behind Take: %d", e)
	}
}
