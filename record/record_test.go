package record_test

import (
	"bytes"
	"encoding/binary"
	"math"
	"math/rand"
	"regexp"
	"slices"
	"strings"
	"sync"
	"testing"
	"unicode/utf8"

	"garner/api"
	"garner/label"
	"garner/record"
	"garner/varint"
)

// The model: the chapter's words.

var nameForm = regexp.MustCompile(`\A[a-z_][a-z0-9_]{0,31}\z`)

// labelFault answers what is wrong with a label by itself.
func labelFault(x api.Label) api.Errno {
	switch {
	case !nameForm.MatchString(x.Name):
		return api.ErrForm
	case len(x.Value) > 256:
		return api.ErrLong
	case !utf8.ValidString(x.Value):
		return api.ErrUtf
	}
	return 0
}

// faultOf answers what the model says of Check(r).
func faultOf(r api.Record) api.Errno {
	if len(r.Labels) > 16 {
		return api.ErrMany
	}
	for _, x := range r.Labels {
		if e := labelFault(x); e != 0 {
			return e
		}
	}
	for i := range r.Labels {
		for _, x := range r.Labels[:i] {
			if x.Name >= r.Labels[i].Name {
				return api.ErrForm
			}
		}
	}
	switch {
	case len(r.Line) > 1024:
		return api.ErrLong
	case !utf8.ValidString(r.Line):
		return api.ErrUtf
	}
	return 0
}

// withText lays a text's length and its bytes behind b.
func withText(b []byte, s string) []byte {
	return append(binary.AppendUvarint(b, uint64(len(s))), s...)
}

// bytesOf answers what stands for r, be it a record or not.
func bytesOf(r api.Record) []byte {
	b := binary.AppendVarint(nil, r.Time)
	b = binary.AppendUvarint(b, r.Seq)
	b = binary.AppendUvarint(b, uint64(len(r.Labels)))
	for _, x := range r.Labels {
		b = withText(withText(b, x.Name), x.Value)
	}
	return withText(b, r.Line)
}

// batchOf answers what stands for a batch, be its records such or not.
func batchOf(l ...api.Record) []byte {
	b := binary.AppendUvarint(nil, uint64(len(l)))
	for _, r := range l {
		b = append(b, bytesOf(r)...)
	}
	return b
}

// got is what Get answers.
type got struct {
	r  api.Record
	to int
	e  api.Errno
}

// getOf answers what the model says of Get(b, at).
func getOf(b []byte, at int) (g got) {
	defer func() {
		if fault := recover(); fault != nil {
			g = got{e: fault.(api.Errno)}
		}
	}()
	number := func() uint64 {
		n, to, e := varint.Get(b, at)
		if e != 0 {
			panic(e)
		}
		at = to
		return n
	}
	text := func() string {
		n := number()
		if n > uint64(len(b)-at) {
			panic(api.ErrShort)
		}
		at += int(n)
		return string(b[at-int(n) : at])
	}
	g.r.Time = varint.Zag(number())
	g.r.Seq = number()
	n := number()
	if n > 16 {
		panic(api.ErrMany)
	}
	for range n {
		name := text()
		g.r.Labels = append(g.r.Labels, api.Label{Name: name, Value: text()})
	}
	g.r.Line = text()
	if e := faultOf(g.r); e != 0 {
		panic(e)
	}
	g.to = at
	return g
}

// getAllOf answers what the model says of GetAll(b).
func getAllOf(b []byte) ([]api.Record, api.Errno) {
	n, at, e := varint.Get(b, 0)
	if e != 0 {
		return nil, e
	}
	if n > 65536 {
		return nil, api.ErrMany
	}
	var l []api.Record
	for range n {
		g := getOf(b, at)
		if g.e != 0 {
			return nil, g.e
		}
		l, at = append(l, g.r), g.to
	}
	if at != len(b) {
		return nil, api.ErrForm
	}
	return l, 0
}

// same tells whether two records are the same in all.
func same(a, b api.Record) bool {
	return a.Time == b.Time && a.Seq == b.Seq && slices.Equal(a.Labels, b.Labels) && a.Line == b.Line
}

// copied answers records that share no list with those of l.
func copied(l ...api.Record) []api.Record {
	c := slices.Clone(l)
	for i := range c {
		c[i].Labels = slices.Clone(c[i].Labels)
	}
	return c
}

// checkCheck holds Check(r) against an error.
func checkCheck(t *testing.T, r api.Record, want api.Errno) {
	t.Helper()
	ahead := copied(r)[0]
	if e := record.Check(r); e != want {
		t.Errorf("Check(%q): %d, not %d", r.Labels, e, want)
	}
	if !same(r, ahead) {
		t.Errorf("Check changed %q", ahead.Labels)
	}
}

// checkPut holds Put(r) against the model.
func checkPut(t *testing.T, r api.Record) api.Errno {
	t.Helper()
	ahead := copied(r)[0]
	fault := faultOf(r)
	var want []byte
	if fault == 0 {
		want = bytesOf(r)
	}
	if b, e := record.Put(r); e != fault || !bytes.Equal(b, want) {
		t.Errorf("Put(%q): % x, %d, not % x, %d", r.Labels, b, e, want, fault)
	}
	if !same(r, ahead) {
		t.Errorf("Put changed %q", ahead.Labels)
	}
	return fault
}

// checkGot holds Get(b, at) against what is wanted.
func checkGot(t *testing.T, b []byte, at int, want got) {
	t.Helper()
	ahead := bytes.Clone(b)
	r, to, e := record.Get(b, at)
	if !same(r, want.r) || to != want.to || e != want.e {
		t.Errorf("Get(% x, %d): %v, %d, %d, not %v, %d, %d", b, at, r, to, e, want.r, want.to, want.e)
	}
	if !bytes.Equal(b, ahead) {
		t.Errorf("Get changed % x", ahead)
	}
}

// checkGet holds Get(b, at) against the model, and Put against what is read.
func checkGet(t *testing.T, b []byte, at int) api.Errno {
	t.Helper()
	want := getOf(b, at)
	checkGot(t, b, at, want)
	if want.e == 0 {
		if p, e := record.Put(want.r); e != 0 || !bytes.Equal(p, b[at:want.to]) {
			t.Errorf("% x is read, but Put writes % x, %d", b[at:want.to], p, e)
		}
	}
	return want.e
}

// checkGetAll holds GetAll(b) against the model, and PutAll against what is read.
func checkGetAll(t *testing.T, b []byte) api.Errno {
	t.Helper()
	want, fault := getAllOf(b)
	ahead := bytes.Clone(b)
	l, e := record.GetAll(b)
	if e != fault || !slices.EqualFunc(l, want, same) {
		t.Errorf("GetAll(% x): %v, %d, not %v, %d", b, l, e, want, fault)
	}
	if !bytes.Equal(b, ahead) {
		t.Errorf("GetAll changed % x", ahead)
	}
	if fault == 0 {
		if p, e := record.PutAll(want...); e != 0 || !bytes.Equal(p, b) {
			t.Errorf("% x is read, but PutAll writes % x, %d", b, p, e)
		}
	}
	return fault
}

// listOf answers labels of names and values in turn.
func listOf(texts ...string) []api.Label {
	var l []api.Label
	for i := 0; i < len(texts); i += 2 {
		l = append(l, api.Label{Name: texts[i], Value: texts[i+1]})
	}
	return l
}

// many answers n labels in canonical order.
func many(n int) []api.Label {
	var l []api.Label
	for i := range n {
		l = append(l, api.Label{Name: "n" + string(rune('a'+i/26)) + string(rune('a'+i%26)), Value: "v"})
	}
	return l
}

// example is the chapter's record.
func example() api.Record {
	return api.Record{Time: -1, Seq: 5, Labels: listOf("a", "1"), Line: "hi"}
}

// greatest answers a record of the most bytes.
func greatest() api.Record {
	r := api.Record{Time: math.MinInt64, Seq: math.MaxUint64, Line: strings.Repeat("\u00e9", 512)}
	for i := range 16 {
		name := strings.Repeat("n", 31) + string(rune('a'+i))
		r.Labels = append(r.Labels, api.Label{Name: name, Value: strings.Repeat("\U0001f600", 64)})
	}
	return r
}

// known answers records with their bytes.
func known() []struct {
	r api.Record
	b string
} {
	line := strings.Repeat("x", 128)
	return []struct {
		r api.Record
		b string
	}{
		{example(), "\x01\x05\x01\x01a\x011\x02hi"},
		{api.Record{}, "\x00\x00\x00\x00"},
		{api.Record{Labels: []api.Label{}}, "\x00\x00\x00\x00"},
		{api.Record{Time: 1, Seq: 1}, "\x02\x01\x00\x00"},
		{api.Record{Time: 64, Seq: 128}, "\x80\x01\x80\x01\x00\x00"},
		{api.Record{Time: -64, Seq: 127}, "\x7f\x7f\x00\x00"},
		{api.Record{Time: math.MinInt64, Seq: math.MaxUint64}, strings.Repeat("\xff\xff\xff\xff\xff\xff\xff\xff\xff\x01", 2) + "\x00\x00"},
		{api.Record{Time: math.MaxInt64, Seq: 1 << 63}, "\xfe\xff\xff\xff\xff\xff\xff\xff\xff\x01\x80\x80\x80\x80\x80\x80\x80\x80\x80\x01\x00\x00"},
		{api.Record{Labels: listOf("a", "", "b", "2")}, "\x00\x00\x02\x01a\x00\x01b\x012\x00"},
		{api.Record{Line: line}, "\x00\x00\x00\x80\x01" + line},
		{api.Record{Labels: listOf("a", line), Line: "\u00e9\x00\n"}, "\x00\x00\x01\x01a\x80\x01" + line + "\x04\u00e9\x00\n"},
	}
}

// good answers records that may be, from a fixed seed.
func good(n int) []api.Record {
	r := rand.New(rand.NewSource(9))
	names := strings.Fields("_ __ a a1 ab app b env host z " + strings.Repeat("n", 31) + " " + strings.Repeat("n", 32))
	values := []string{"", "1", "web", "\"\\\n", "\u4e16\u754c", "\x00", strings.Repeat("v", 127), strings.Repeat("v", 128), strings.Repeat("v", 256)}
	lines := []string{"", "hi", "\u00e9", "\n", strings.Repeat("l", 127), strings.Repeat("l", 128), strings.Repeat("l", 1024)}
	slices.Sort(names)
	l := make([]api.Record, n)
	for i := range l {
		l[i] = api.Record{Time: int64(r.Uint64()) >> r.Intn(64), Seq: r.Uint64() >> r.Intn(64), Line: lines[r.Intn(len(lines))]}
		for _, name := range names {
			if r.Intn(4) == 0 {
				l[i].Labels = append(l[i].Labels, api.Label{Name: name, Value: values[r.Intn(len(values))]})
			}
		}
	}
	return l
}

// noise answers records from a fixed seed, most of them with faults.
func noise(n int) []api.Record {
	r := rand.New(rand.NewSource(10))
	bad := listOf("A", "", "1a", "", "", "", "a-b", "", "\xff", "", strings.Repeat("n", 33), "", "u", "\xff", "v", strings.Repeat("v", 257), "w", strings.Repeat("\xff", 257))
	lines := []string{"\xff", "a\xc3", "\xed\xa0\x80", strings.Repeat("l", 1025), strings.Repeat("\u00e9", 513), strings.Repeat("\xff", 1024), strings.Repeat("\xff", 1025)}
	l := good(n)
	for i := range l {
		x := &l[i]
		switch r.Intn(8) {
		case 0:
			x.Labels = slices.Insert(x.Labels, r.Intn(len(x.Labels)+1), bad[r.Intn(len(bad))])
		case 1:
			r.Shuffle(len(x.Labels), func(i, j int) { x.Labels[i], x.Labels[j] = x.Labels[j], x.Labels[i] })
		case 2:
			if len(x.Labels) > 0 { // two of one name
				at := r.Intn(len(x.Labels))
				x.Labels = slices.Insert(x.Labels, at, x.Labels[at])
			}
		case 3:
			x.Labels = append(many(17), x.Labels...)
		}
		if r.Intn(3) == 0 {
			x.Line = lines[r.Intn(len(lines))]
		}
	}
	return l
}

// join answers all parts, one behind the other.
func join(parts ...string) []byte {
	return []byte(strings.Join(parts, ""))
}

// everyRow calls f with all rows of at most n bytes of those in from.
func everyRow(n int, from []byte, f func([]byte)) {
	var grow func(b []byte)
	grow = func(b []byte) {
		f(b)
		if len(b) < n {
			for _, c := range from {
				grow(append(b, c))
			}
		}
	}
	grow(nil)
}

// P9.1

func TestCheckLine(t *testing.T) {
	for _, line := range []string{"", "hi", " ", "\x00", "\n", "\u00e9", "\ufffd", "\U0010ffff", strings.Repeat("l", 1023), strings.Repeat("l", 1024), strings.Repeat("\u00e9", 512), strings.Repeat("\U0001f600", 256)} {
		checkCheck(t, api.Record{Line: line}, 0)
		checkCheck(t, api.Record{Labels: listOf("a", "1"), Line: line}, 0)
	}
	for _, line := range []string{strings.Repeat("l", 1025), strings.Repeat("\u00e9", 513), strings.Repeat("l", 1023) + "\u00e9", strings.Repeat("l", 1<<20), strings.Repeat("\xff", 1025), strings.Repeat("l", 1024) + "\xff"} {
		checkCheck(t, api.Record{Line: line}, api.ErrLong)
	}
	for _, line := range []string{"\xff", "\x80", "a\xc3", "\xc0\x80", "\xed\xa0\x80", "\xf4\x90\x80\x80", strings.Repeat("\xff", 1024), strings.Repeat("l", 1023) + "\xc3"} {
		checkCheck(t, api.Record{Line: line}, api.ErrUtf)
	}
}

func TestCheckTimeAndSeq(t *testing.T) {
	for _, n := range []int64{0, 1, -1, math.MinInt64, math.MaxInt64} {
		checkCheck(t, api.Record{Time: n, Seq: uint64(n)}, 0)
		checkCheck(t, api.Record{Time: n, Seq: uint64(n), Line: "\xff"}, api.ErrUtf)
	}
}

func TestCheckLabels(t *testing.T) {
	for _, c := range []struct {
		l    []api.Label
		want api.Errno
	}{
		{nil, 0},
		{[]api.Label{}, 0},
		{listOf("a", ""), 0},
		{listOf("a", "2", "b", "1"), 0},
		{listOf("_", "", "a", "", "a1", "", "a_", "", "aa", ""), 0},
		{listOf(strings.Repeat("n", 32), strings.Repeat("v", 256)), 0},
		{many(16), 0},
		{many(17), api.ErrMany},
		{make([]api.Label, 17), api.ErrMany},
		{make([]api.Label, 1<<16), api.ErrMany},
		{make([]api.Label, 16), api.ErrForm},
		{listOf("", ""), api.ErrForm},
		{listOf("A", ""), api.ErrForm},
		{listOf("1", ""), api.ErrForm},
		{listOf(strings.Repeat("n", 33), ""), api.ErrForm},
		{listOf("a", strings.Repeat("v", 257)), api.ErrLong},
		{listOf("a", "\xff"), api.ErrUtf},
		{listOf("a", "1", "a", "1"), api.ErrForm}, // two of one name
		{listOf("a", "1", "a", "2"), api.ErrForm},
		{listOf("b", "", "a", ""), api.ErrForm}, // not in canonical order
		{listOf("a", "", "c", "", "b", ""), api.ErrForm},
		{listOf("b", "", "a", "", "c", ""), api.ErrForm},
		{listOf("a1", "", "a", ""), api.ErrForm},
		{listOf("a", "", "_", ""), api.ErrForm},
	} {
		checkCheck(t, api.Record{Labels: c.l}, c.want)
	}
}

func TestCheckEachOrder(t *testing.T) {
	sorted := listOf("_", "4", "a", "3", "ab", "2", "b", "1")
	l := slices.Clone(sorted)
	var lay func(at int)
	lay = func(at int) {
		if at == len(l) {
			want := api.ErrForm
			if slices.Equal(l, sorted) {
				want = 0
			}
			checkCheck(t, api.Record{Labels: l}, want)
			return
		}
		for i := at; i < len(l); i++ {
			l[at], l[i] = l[i], l[at]
			lay(at + 1)
			l[at], l[i] = l[i], l[at]
		}
	}
	lay(0)
	for i := range 15 { // two neighbours of the most labels
		l := many(16)
		l[i], l[i+1] = l[i+1], l[i]
		checkCheck(t, api.Record{Labels: l}, api.ErrForm)
	}
}

func TestCheckErrorsInOrder(t *testing.T) {
	value, long := strings.Repeat("v", 257), strings.Repeat("\xff", 1025)
	for _, c := range []struct {
		l    []api.Label
		line string
		want api.Errno
	}{
		{many(17), "\xff", api.ErrMany},
		{many(17), long, api.ErrMany},
		{listOf("A", "\xff"), long, api.ErrForm},
		{listOf("a", value), "\xff", api.ErrLong},
		{listOf("a", "\xff"), long, api.ErrUtf},
		{listOf("b", "", "a", "\xff"), long, api.ErrUtf}, // Canon's error ahead of the order
		{listOf("b", "", "a", value), "\xff", api.ErrLong},
		{listOf("b", "\xff", "a", value), "", api.ErrUtf}, // label by label
		{listOf("b", value, "a", "\xff"), "", api.ErrLong},
		{listOf("b", "", "a", ""), long, api.ErrForm}, // the order ahead of the line
		{listOf("b", "", "a", ""), "\xff", api.ErrForm},
		{listOf("a", "", "a", ""), long, api.ErrForm},
		{listOf("a", "", "a", ""), "\xff", api.ErrForm},
		{listOf("a", ""), long, api.ErrLong}, // its length ahead of what it is made of
		{listOf("a", ""), "\xff", api.ErrUtf},
		{nil, long, api.ErrLong},
	} {
		checkCheck(t, api.Record{Labels: c.l, Line: c.line}, c.want)
		checkPut(t, api.Record{Labels: c.l, Line: c.line})
		checkGot(t, bytesOf(api.Record{Labels: c.l, Line: c.line}), 0, got{e: c.want})
	}
}

func TestCheckTellsCanonsErrors(t *testing.T) {
	for _, r := range noise(2000) {
		r.Line = ""
		if _, e := label.Canon(r.Labels); e != 0 {
			checkCheck(t, r, e)
		}
	}
}

func TestCheckOfNoise(t *testing.T) {
	count := map[api.Errno]int{}
	for _, r := range noise(5000) {
		fault := faultOf(r)
		checkCheck(t, r, fault)
		checkPut(t, r)
		count[fault]++
	}
	for _, e := range []api.Errno{0, api.ErrMany, api.ErrLong, api.ErrForm, api.ErrUtf} {
		if count[e] < 100 {
			t.Errorf("%d records of error %d: too few", count[e], e)
		}
	}
}

// P9.2

func TestPut(t *testing.T) {
	for _, c := range known() {
		if b, e := record.Put(c.r); e != 0 || string(b) != c.b {
			t.Errorf("Put(%v): % x, %d, not % x", c.r, b, e, c.b)
		}
	}
	for _, r := range append(good(1000), greatest()) {
		if e := checkPut(t, r); e != 0 {
			t.Errorf("Put(%v): %d", r, e)
		}
	}
}

func TestPutOfWhatIsNoRecord(t *testing.T) {
	for _, c := range []struct {
		r    api.Record
		want api.Errno
	}{
		{api.Record{Labels: many(17)}, api.ErrMany},
		{api.Record{Labels: listOf("b", "", "a", "")}, api.ErrForm},
		{api.Record{Labels: listOf("a", "", "a", "")}, api.ErrForm},
		{api.Record{Labels: listOf("A", "")}, api.ErrForm},
		{api.Record{Labels: listOf("a", strings.Repeat("v", 257))}, api.ErrLong},
		{api.Record{Labels: listOf("a", "\xff")}, api.ErrUtf},
		{api.Record{Line: strings.Repeat("l", 1025)}, api.ErrLong},
		{api.Record{Line: "\xff"}, api.ErrUtf},
	} {
		if b, e := record.Put(c.r); len(b) > 0 || e != c.want {
			t.Errorf("Put(%q): % x, %d, not %d", c.r.Labels, b, e, c.want)
		}
	}
}

func TestGet(t *testing.T) {
	for _, c := range known() {
		checkGot(t, []byte(c.b), 0, got{c.r, len(c.b), 0})
	}
	for _, r := range append(good(1000), greatest()) {
		b := bytesOf(r)
		checkGot(t, b, 0, got{r, len(b), 0})
		checkGot(t, join("\xff\x00", string(b), "\xff"), 2, got{r, len(b) + 2, 0}) // what stands about it isn't read
	}
}

func TestGetOneBehindTheOther(t *testing.T) {
	l := good(100)
	var b []byte
	for _, r := range l {
		b = append(b, bytesOf(r)...)
	}
	at := 0
	for _, r := range l {
		to := at + len(bytesOf(r))
		checkGot(t, b, at, got{r, to, 0})
		at = to
	}
	checkGot(t, b, at, got{e: api.ErrShort})
}

func TestGetPlaces(t *testing.T) {
	for _, b := range [][]byte{nil, {}, {0}, bytesOf(api.Record{}), bytesOf(example()), make([]byte, 100)} {
		for _, at := range []int{math.MinInt, math.MinInt + 1, -2, -1, len(b) + 1, len(b) + 2, math.MaxInt - 1, math.MaxInt} {
			checkGot(t, b, at, got{e: api.ErrArg})
		}
		checkGot(t, b, len(b), got{e: api.ErrShort})
		for at := range len(b) {
			checkGet(t, b, at)
		}
	}
}

func TestGetEachShorterBeginning(t *testing.T) {
	for _, r := range append(good(100), greatest(), example()) {
		b := bytesOf(r)
		for n := range len(b) {
			if x, to, e := record.Get(b[:n], 0); e != api.ErrShort || to != 0 || !same(x, api.Record{}) { // the spare room has the rest
				t.Fatalf("Get of %d bytes of % x: %v, %d, %d", n, b, x, to, e)
			}
		}
	}
}

func TestGetNumbersThatAreNone(t *testing.T) {
	// What stands ahead of each number of a record, and is right.
	for _, ahead := range []string{"", "\x00", "\x00\x00", "\x00\x00\x01", "\x00\x00\x01\x01a", "\x00\x00\x01\x01a\x00", "\x00\x00\x00", "\x00\x00\x02\x01a\x00", "\x00\x00\x02\x01a\x00\x01b"} {
		for _, c := range []struct {
			number string
			want   api.Errno
		}{
			{"", api.ErrShort},
			{"\x80", api.ErrShort},
			{strings.Repeat("\xff", 9), api.ErrShort},
			{"\x80\x00", api.ErrForm}, // not the shortest form
			{"\x81\x00", api.ErrForm},
			{strings.Repeat("\x80", 9) + "\x00", api.ErrForm},
			{strings.Repeat("\xff", 9) + "\x02", api.ErrForm}, // more than 64 bits
			{strings.Repeat("\xff", 10), api.ErrForm},
		} {
			checkGot(t, join(ahead, c.number), 0, got{e: c.want})
			checkGot(t, join("\x07", ahead, c.number), 1, got{e: c.want})
			if c.want == api.ErrForm {
				checkGot(t, join(ahead, c.number, strings.Repeat("\x00", 20)), 0, got{e: c.want})
			}
		}
	}
}

func TestGetMany(t *testing.T) {
	for _, n := range []uint64{17, 18, 127, 128, 1 << 16, 1 << 31, 1 << 32, 1 << 63, math.MaxUint64} {
		count := string(binary.AppendUvarint(nil, n))
		for _, behind := range []string{"", "\x80\x00", "\x01", "\xff", strings.Repeat("\x00", 100), string(bytesOf(api.Record{Labels: many(17)})[3:])} { // it is told ahead of all behind it
			checkGot(t, join("\x00\x00", count, behind), 0, got{e: api.ErrMany})
		}
	}
	checkGot(t, join("\x00\x80\x00\x11"), 0, got{e: api.ErrForm}) // but not ahead of a number in front of it
	checkGot(t, join("\x00\x00\x10"), 0, got{e: api.ErrShort})
	r := api.Record{Labels: many(16)}
	checkGot(t, bytesOf(r), 0, got{r, len(bytesOf(r)), 0})
}

func TestGetTextsThatArentAllThere(t *testing.T) {
	for _, ahead := range []string{"\x00\x00\x01", "\x00\x00\x01\x01a", "\x00\x00\x01\x01a\x00", "\x00\x00\x00", "\x00\x00\x02\x01a\x00", "\x00\x00\x01\x01A\x01\xff"} {
		for _, n := range []uint64{3, 4, 128, 1025, 1 << 16, 1<<31 - 1, 1 << 31, 1 << 32, 1<<63 - 1, 1 << 63, 1<<63 + 2, math.MaxUint64 - 1, math.MaxUint64} {
			b := join(ahead, string(binary.AppendUvarint(nil, n)), "xy")
			checkGot(t, b, 0, got{e: api.ErrShort})
			checkGot(t, join(string(b), "z")[:len(b)], 0, got{e: api.ErrShort}) // the spare room isn't read
			checkGot(t, join("\x00\x00\x00", string(b)), 3, got{e: api.ErrShort})
		}
	}
}

func TestGetOfWhatIsNoRecord(t *testing.T) {
	for _, r := range noise(2000) {
		b := bytesOf(r)
		want := got{r, len(b), 0}
		if e := faultOf(r); e != 0 {
			want = got{e: e}
		}
		checkGot(t, b, 0, want)
		if want.e != 0 && want.e != api.ErrMany { // Check's error is told behind the line
			checkGot(t, b[:len(b)-1], 0, getOf(b[:len(b)-1], 0))
			if len(r.Line) > 0 {
				checkGot(t, b[:len(b)-1], 0, got{e: api.ErrShort})
			}
		}
	}
}

func TestGetOfAllRows(t *testing.T) {
	for _, ahead := range []string{"", "\x01\x05\x01\x01a", "\x00\x00\x02\x01a\x00\x01", "\x00\x00\x01\x01a\x011", "\x07\xff"} {
		count := map[api.Errno]int{}
		everyRow(5, []byte{0, 1, 2, 3, 0x11, 'a', 'b', 0x80, 0xff}, func(b []byte) {
			count[checkGet(t, join(ahead, string(b)), 0)]++
		})
		if count[0] < 10 || count[api.ErrShort] < 10 || count[api.ErrForm] < 10 {
			t.Errorf("behind % x: %v: too few", ahead, count)
		}
	}
}

func TestGetOfChangedBytes(t *testing.T) {
	for _, r := range []api.Record{{}, example(), {Time: 1 << 40, Seq: 1 << 50, Labels: listOf("a", "1", "ab", "", "b", "\u00e9"), Line: "x\u4e16"}, {Labels: many(16), Line: strings.Repeat("l", 130)}} {
		b := bytesOf(r)
		for i := range b {
			for c := range 256 {
				changed := bytes.Clone(b)
				changed[i] = byte(c)
				checkGet(t, changed, 0)
			}
			checkGet(t, slices.Delete(bytes.Clone(b), i, i+1), 0)
			checkGet(t, slices.Insert(bytes.Clone(b), i, 0), 0)
			checkGet(t, slices.Insert(bytes.Clone(b), i, 1), 0)
			checkGet(t, slices.Insert(bytes.Clone(b), i, 0x80), 0)
		}
	}
}

// P9.3

func TestPutAll(t *testing.T) {
	for _, c := range []struct {
		l    []api.Record
		want string
	}{
		{nil, "\x00"},
		{[]api.Record{}, "\x00"},
		{[]api.Record{{}}, "\x01\x00\x00\x00\x00"},
		{[]api.Record{example()}, "\x01\x01\x05\x01\x01a\x011\x02hi"},
		{[]api.Record{example(), {}, example()}, "\x03\x01\x05\x01\x01a\x011\x02hi\x00\x00\x00\x00\x01\x05\x01\x01a\x011\x02hi"},
		{[]api.Record{{Time: 2}, {Time: 1}}, "\x02\x04\x00\x00\x00\x02\x00\x00\x00"}, // in the order in which they were handed in
	} {
		if b, e := record.PutAll(c.l...); e != 0 || string(b) != c.want {
			t.Errorf("PutAll(%v): % x, %d, not % x", c.l, b, e, c.want)
		}
	}
	if b, e := record.PutAll(); e != 0 || string(b) != "\x00" {
		t.Errorf("PutAll(): % x, %d", b, e)
	}
	for n := range 300 {
		l := good(n)
		if b, e := record.PutAll(l...); e != 0 || !bytes.Equal(b, batchOf(l...)) {
			t.Errorf("PutAll of %d: %d", n, e)
		}
	}
}

func TestPutAllErrors(t *testing.T) {
	order, broken, long, labels := api.Record{Labels: listOf("b", "", "a", "")}, api.Record{Line: "\xff"}, api.Record{Line: strings.Repeat("l", 1025)}, api.Record{Labels: many(17)}
	for _, c := range []struct {
		l    []api.Record
		want api.Errno
	}{
		{[]api.Record{broken}, api.ErrUtf},
		{[]api.Record{{}, broken}, api.ErrUtf},
		{[]api.Record{broken, {}}, api.ErrUtf},
		{[]api.Record{example(), {}, labels}, api.ErrMany},
		{[]api.Record{order, broken, long, labels}, api.ErrForm}, // the first
		{[]api.Record{broken, long, labels, order}, api.ErrUtf},
		{[]api.Record{long, labels, order, broken}, api.ErrLong},
		{[]api.Record{labels, order, broken, long}, api.ErrMany},
	} {
		if b, e := record.PutAll(c.l...); len(b) > 0 || e != c.want {
			t.Errorf("PutAll(%v): % x, %d, not %d", c.l, b, e, c.want)
		}
		if l, e := record.GetAll(batchOf(c.l...)); len(l) > 0 || e != c.want {
			t.Errorf("GetAll(% x): %v, %d, not %d", batchOf(c.l...), l, e, c.want)
		}
	}
}

func TestMostRecords(t *testing.T) {
	l := make([]api.Record, 65536)
	l[65535] = example()
	b, e := record.PutAll(l...)
	if e != 0 || !bytes.Equal(b, batchOf(l...)) {
		t.Errorf("PutAll of 65536: %d", e)
	}
	if back, e := record.GetAll(b); e != 0 || !slices.EqualFunc(back, l, same) {
		t.Errorf("GetAll of 65536: %d records, %d", len(back), e)
	}
	if back, e := record.GetAll(b[:len(b)-1]); len(back) > 0 || e != api.ErrShort {
		t.Errorf("GetAll of nearly 65536: %d records, %d", len(back), e)
	}
	l[65535].Line = "\xff"
	if b, e := record.PutAll(l...); len(b) > 0 || e != api.ErrUtf {
		t.Errorf("PutAll of 65536 with a fault: %d bytes, %d", len(b), e)
	}
	if back, e := record.GetAll(batchOf(l...)); len(back) > 0 || e != api.ErrUtf {
		t.Errorf("GetAll of 65536 with a fault: %d records, %d", len(back), e)
	}
}

func TestTooManyRecords(t *testing.T) {
	for _, n := range []int{65537, 65538, 1 << 17} {
		l := make([]api.Record, n)
		for range 2 {
			if b, e := record.PutAll(l...); len(b) > 0 || e != api.ErrMany {
				t.Errorf("PutAll of %d: %d bytes, %d", n, len(b), e)
			}
			if back, e := record.GetAll(batchOf(l...)); len(back) > 0 || e != api.ErrMany {
				t.Errorf("GetAll of %d: %d records, %d", n, len(back), e)
			}
			l[0].Line = "\xff" // it is told ahead of what is wrong with one
		}
	}
	for _, n := range []uint64{65537, 1 << 31, 1 << 32, 1<<32 + 1, 1 << 63, math.MaxUint64} {
		for _, behind := range []string{"", "\x80\x00", strings.Repeat("\x00", 100)} {
			if l, e := record.GetAll(append(binary.AppendUvarint(nil, n), behind...)); len(l) > 0 || e != api.ErrMany {
				t.Errorf("GetAll of %d that aren't there: %d records, %d", n, len(l), e)
			}
		}
	}
	if l, e := record.GetAll(binary.AppendUvarint(nil, 65536)); len(l) > 0 || e != api.ErrShort {
		t.Errorf("GetAll of 65536 that aren't there: %d records, %d", len(l), e)
	}
}

func TestGetAll(t *testing.T) {
	for _, c := range []struct {
		b    string
		want []api.Record
		e    api.Errno
	}{
		{"\x00", nil, 0},
		{"\x01\x00\x00\x00\x00", []api.Record{{}}, 0},
		{"\x01\x01\x05\x01\x01a\x011\x02hi", []api.Record{example()}, 0},
		{"\x02\x01\x05\x01\x01a\x011\x02hi\x00\x00\x00\x00", []api.Record{example(), {}}, 0},
		{"\x02\x04\x00\x00\x00\x02\x00\x00\x00", []api.Record{{Time: 2}, {Time: 1}}, 0},
		{"", nil, api.ErrShort},
		{"\x80", nil, api.ErrShort},
		{"\x80\x00", nil, api.ErrForm},
		{"\xff\xff\xff\xff\xff\xff\xff\xff\xff\x02", nil, api.ErrForm},
		{"\x00\x00", nil, api.ErrForm}, // bytes are left
		{"\x00\xff", nil, api.ErrForm},
		{"\x01\x00\x00\x00\x00\x00", nil, api.ErrForm},
		{"\x01\x00\x00\x00\x00\x00\x00\x00\x00", nil, api.ErrForm},
		{"\x01", nil, api.ErrShort},
		{"\x02\x00\x00\x00\x00", nil, api.ErrShort},
		{"\x02\x00\x00\x00\x00\x00\x00\x00", nil, api.ErrShort},
		{"\x01\x00\x00\x11", nil, api.ErrMany},
		{"\x01\x00\x00\x00\x02a", nil, api.ErrShort},
		{"\x01\x00\x00\x00\x01\xff", nil, api.ErrUtf},
		{"\x01\x00\x00\x00\x01\xff\x00", nil, api.ErrUtf}, // ahead of what is left
		{"\x02\x00\x00\x00\x01\xff", nil, api.ErrUtf},     // ahead of what isn't there
		{"\x02\x00\x00\x00\x01\xff\x00\x00\x11", nil, api.ErrUtf},
		{"\x02\x00\x00\x11\x00\x00\x00\x01\xff", nil, api.ErrMany},
		{"\x02\x00\x00\x00\x00\x80\x00", nil, api.ErrForm},
	} {
		if l, e := record.GetAll([]byte(c.b)); e != c.e || !slices.EqualFunc(l, c.want, same) {
			t.Errorf("GetAll(% x): %v, %d, not %v, %d", c.b, l, e, c.want, c.e)
		}
		checkGetAll(t, []byte(c.b))
	}
	for n := range 100 {
		if e := checkGetAll(t, batchOf(good(n)...)); e != 0 {
			t.Errorf("GetAll of %d: %d", n, e)
		}
		checkGetAll(t, batchOf(noise(n)...))
	}
}

func TestGetAllOfEachShorterAndLonger(t *testing.T) {
	b := batchOf(append(good(5), example(), api.Record{})...)
	for n := range len(b) {
		if l, e := record.GetAll(b[:n]); e != api.ErrShort || len(l) > 0 {
			t.Fatalf("GetAll of %d bytes of % x: %v, %d", n, b, l, e)
		}
	}
	for c := range 256 {
		longer := append(bytes.Clone(b), byte(c))
		if l, e := record.GetAll(longer); e != api.ErrForm || len(l) > 0 {
			t.Fatalf("GetAll(% x): %v, %d", longer, l, e)
		}
		if e := checkGetAll(t, longer[:len(b)]); e != 0 { // the spare room isn't left
			t.Fatalf("GetAll(% x): %d", b, e)
		}
	}
}

func TestGetAllOfAllRows(t *testing.T) {
	for _, ahead := range []string{"", "\x01\x01\x05\x01\x01a", "\x02\x00\x00\x00\x00\x02\x00"} {
		count := map[api.Errno]int{}
		everyRow(5, []byte{0, 1, 2, 3, 0x11, 'a', 0x80, 0xff}, func(b []byte) {
			count[checkGetAll(t, join(ahead, string(b)))]++
		})
		for _, e := range []api.Errno{0, api.ErrShort, api.ErrForm} {
			if count[e] < 5 {
				t.Errorf("behind % x: %d of error %d: too few", ahead, count[e], e)
			}
		}
	}
}

func TestGetAllOfChangedBytes(t *testing.T) {
	b := batchOf(example(), api.Record{}, api.Record{Time: 1 << 40, Labels: listOf("a", "1", "b", "\u00e9"), Line: "x"})
	for i := range b {
		for c := range 256 {
			changed := bytes.Clone(b)
			changed[i] = byte(c)
			checkGetAll(t, changed)
		}
	}
}

// P9.4

// rising are records, each lesser than the one behind it.
func rising() []api.Record {
	return []api.Record{
		{Time: math.MinInt64, Seq: 0},
		{Time: math.MinInt64, Seq: 7},
		{Time: math.MinInt64, Seq: math.MaxUint64},
		{Time: math.MinInt64 + 1},
		{Time: -1, Seq: math.MaxUint64},
		{Time: 0, Seq: 0},
		{Time: 0, Seq: 1},
		{Time: 0, Seq: 1<<63 - 1},
		{Time: 0, Seq: 1 << 63},
		{Time: 0, Seq: math.MaxUint64},
		{Time: 1, Seq: 9},
		{Time: 2, Seq: 3},
		{Time: 1 << 32, Seq: 0},
		{Time: math.MaxInt64, Seq: 0},
		{Time: math.MaxInt64, Seq: math.MaxUint64},
	}
}

func TestCompare(t *testing.T) {
	l := rising()
	for i, a := range l {
		for j, b := range l {
			want := 0
			if i < j {
				want = -1
			} else if i > j {
				want = 1
			}
			if c := record.Compare(a, b); c != want {
				t.Errorf("Compare(%v, %v): %d, not %d", a, b, c, want)
			}
			a.Labels, a.Line, b.Labels, b.Line = listOf("b", "2"), "z", listOf("a", "\xff", "a", ""), "\xff" // they don't count
			if c, d := record.Compare(a, b), record.Compare(b, a); c != want || d != -want {
				t.Errorf("Compare(%v, %v): %d, %d, not %d", a, b, c, d, want)
			}
		}
	}
}

func TestCompareSorts(t *testing.T) {
	l := append(rising(), rising()...)
	r := rand.New(rand.NewSource(1))
	for range 100 {
		r.Shuffle(len(l), func(i, j int) { l[i], l[j] = l[j], l[i] })
		slices.SortFunc(l, record.Compare)
		for i, x := range rising() {
			if !same(l[2*i], x) || !same(l[2*i+1], x) {
				t.Fatalf("%v", l)
			}
		}
	}
}

func TestWhatIsHandedInStays(t *testing.T) {
	room := listOf("a", "1", "b", "2", "spare", "room")
	records := []api.Record{{Labels: room[:2], Line: "x"}, {Labels: listOf("b", "", "a", "")}, {Line: "\xff"}}
	ahead := copied(records...)
	record.PutAll(records[:1]...)
	record.PutAll(records[0], records[0])
	record.PutAll(records...)
	for _, r := range records {
		record.Check(r)
		record.Put(r)
		record.Compare(r, records[0])
	}
	if !slices.EqualFunc(records, ahead, same) || !slices.Equal(room, listOf("a", "1", "b", "2", "spare", "room")) {
		t.Errorf("%v, %v", records, room)
	}
	b := append(batchOf(records[0]), "spare"...)
	keep := bytes.Clone(b)
	record.GetAll(b[:len(b)-5])
	record.GetAll(b)
	record.Get(b[:len(b)-5], 1)
	record.Get(b[:3], 1)
	if !bytes.Equal(b, keep) {
		t.Errorf("% x", b)
	}
}

// fill writes ee over all of b, its spare room too.
func fill(b []byte) {
	b = b[:cap(b)]
	for i := range b {
		b[i] = 0xee
	}
}

func TestPutsAnswerNewMemory(t *testing.T) {
	l := append(good(20), api.Record{}, example(), greatest())
	var ones, alls [][]byte
	for range 2 {
		for i, r := range l {
			one, _ := record.Put(r)
			all, _ := record.PutAll(l[i], l[0])
			ones, alls = append(ones, one), append(alls, all)
		}
	}
	for i := range ones {
		r := l[i%len(l)]
		if !bytes.Equal(ones[i], bytesOf(r)) || !bytes.Equal(alls[i], batchOf(r, l[0])) {
			t.Errorf("answer %d was changed through another one", i)
		}
		fill(ones[i])
		fill(alls[i])
	}
	if !slices.EqualFunc(l, append(good(20), api.Record{}, example(), greatest()), same) {
		t.Error("a record was changed through an answer")
	}
}

func TestGetsAnswerNewMemory(t *testing.T) {
	want := append(good(20), api.Record{}, example(), greatest(), example())
	b := batchOf(want...)
	l, e := record.GetAll(b)
	again, f := record.GetAll(b)
	one, to, g := record.Get(b, 1)
	if e != 0 || f != 0 || g != 0 || to != 1+len(bytesOf(want[0])) {
		t.Fatalf("%d, %d, %d, %d", e, f, g, to)
	}
	fill(b) // no text lies in the bytes
	if !slices.EqualFunc(l, want, same) || !same(one, want[0]) {
		t.Error("an answer was changed through the bytes")
	}
	for i := range l { // and no list in another one
		if !same(l[i], want[i]) {
			t.Errorf("record %d was changed through another one", i)
		}
		clear(l[i].Labels[:cap(l[i].Labels)])
	}
	clear(l[:cap(l)])
	if !slices.EqualFunc(again, want, same) || !same(one, want[0]) {
		t.Error("an answer was changed through another one")
	}
	for _, c := range b {
		if c != 0xee {
			t.Fatal("the bytes were changed through an answer")
		}
	}
}

func TestLimitsAreThoseOfTheDocument(t *testing.T) {
	if api.MaxName != 32 || api.MaxValue != 256 || api.MaxLabels != 16 || api.MaxLine != 1024 || api.MaxFrame != 65536 {
		t.Errorf("%d, %d, %d, %d, %d", api.MaxName, api.MaxValue, api.MaxLabels, api.MaxLine, api.MaxFrame)
	}
}

func TestManyAtOnce(t *testing.T) {
	l := noise(300)
	fine := good(100)
	b := batchOf(fine...)
	var all sync.WaitGroup
	for range 8 {
		all.Go(func() {
			for _, r := range l {
				checkPut(t, r)
				checkGet(t, bytesOf(r), 0)
			}
			if back, e := record.GetAll(b); e != 0 || !slices.EqualFunc(back, fine, same) {
				t.Errorf("GetAll: %d", e)
			}
		})
	}
	all.Wait()
}
