package store_test

import (
	"fmt"
	"math"
	"slices"
	"strings"
	"sync"
	"testing"

	"garner/api"
	"garner/disk"
	"garner/frame"
	"garner/manifest"
	"garner/record"
	"garner/segment"
	"garner/store"
	"garner/wal"
)

// Means

const last = 1000000000 // the greatest number of a segment and of a log's file

// lay lays bytes, synced, behind those of a file.
func lay(d *disk.Disk, name, b string) {
	d.Append(name, []byte(b))
	d.Sync(name)
}

// framed answers the frames of payloads.
func framed(payloads ...string) string {
	s := ""
	for _, p := range payloads {
		b, e := frame.Frame([]byte(p))
		if e != 0 {
			panic(e)
		}
		s += string(b)
	}
	return s
}

// batch answers the bytes of a batch.
func batch(l ...api.Record) string {
	b, e := record.PutAll(l...)
	if e != 0 {
		panic(e)
	}
	return string(b)
}

// segmentOf answers the bytes of a segment.
func segmentOf(l ...api.Record) string {
	b, e := segment.Write(l)
	if e != 0 {
		panic(e)
	}
	return string(b)
}

// save lays the manifest on the disk.
func save(d *disk.Disk, m api.Manifest) *disk.Disk {
	if e := manifest.Save(d, m); e != 0 {
		panic(e)
	}
	return d
}

// with answers a disk with a manifest, and with the segments of those lists that it has at its end: their numbers are 1, 2 and so on.
func with(m api.Manifest, segs ...[]api.Record) *disk.Disk {
	d := disk.New()
	for i, l := range segs {
		lay(d, segName(i+1), segmentOf(l...))
		m.Segs = append(m.Segs, api.Seg{Id: i + 1, Count: len(l), Min: l[0].Time, Max: l[len(l)-1].Time})
	}
	return save(d, m)
}

// many answers n records.
func many(n int) []api.Record {
	var l []api.Record
	for i := range n {
		l = append(l, api.Record{Time: int64(i % 7), Line: fmt.Sprint("r", i%3)})
	}
	return l
}

// flushed answers a disk with a store that has a segment for each of the lists of times, and a head of the last one.
func flushed(t *testing.T, lists ...[]int64) *disk.Disk {
	t.Helper()
	d := disk.New()
	s := open(t, d)
	for i, times := range lists {
		put(t, s, times...)
		if i < len(lists)-1 {
			flush(t, s)
		}
	}
	return d
}

// three is a store of three segments of a record each, and a head of two.
func three(t *testing.T) *disk.Disk {
	return flushed(t, []int64{5}, []int64{30}, []int64{-3}, []int64{20, 7})
}

// four is a store of four segments of a record each, and a head of two.
func four(t *testing.T) *disk.Disk {
	return flushed(t, []int64{5}, []int64{30}, []int64{-3}, []int64{12}, []int64{20, 7})
}

// The chapter's examples

func TestExamples(t *testing.T) {
	d := disk.New()
	s := open(t, d)
	l, e := s.Append(at(7, 7))
	if e != 0 || len(l) != 2 || l[0].Seq != 1 || l[1].Seq != 2 {
		t.Errorf("Append: %v, %d", l, e)
	}
	checkFiles(t, d, "wal-1")
	flush(t, s)
	checkFiles(t, d, "manifest", "seg-1")
	if m := s.Manifest(); m.Wal != 2 || m.Next != 2 || m.Seq != 3 || !slices.Equal(m.Segs, []api.Seg{{Id: 1, Count: 2, Min: 7, Max: 7}}) {
		t.Errorf("Manifest: %v", m)
	}
	s = open(t, disk.New())
	for i := range 4 {
		put(t, s, int64(99+i))
		flush(t, s)
	}
	if ok, e := s.Merge(); !ok || e != 0 {
		t.Errorf("Merge: %v, %d", ok, e)
	}
	if m := s.Manifest(); !slices.Equal(m.Segs, []api.Seg{{Id: 5, Count: 4, Min: 99, Max: 102}}) {
		t.Errorf("Manifest: %v", m)
	}
	check(t, "Expire", s.Expire(100), 0)
	checkRecords(t, "Records", s.Records(), numbered(2, at(100, 101, 102)...))

	d = disk.New()
	lay(d, "x", "")
	open(t, d)
	checkFiles(t, d)
	refused(t, "a segment that isn't there", save(disk.New(), api.Manifest{Wal: 1, Next: 2, Segs: []api.Seg{{Id: 1, Count: 1}}}), api.ErrStore)
}

// P17.1: what is opened

func TestOpenOfNothing(t *testing.T) {
	d := disk.New()
	s := open(t, d)
	if m := s.Manifest(); !sameManifest(m, manifest.First()) || s.Next() != 1 || len(s.Records()) != 0 || s.Head().Len() != 0 || s.Segment(0) != nil {
		t.Errorf("%v, %d, %v", m, s.Next(), s.Records())
	}
	checkFiles(t, d)
	if n := changes(d, func() { open(t, d) }); n != 0 {
		t.Errorf("%d changes", n)
	}
	open(t, full(disk.New()))
}

func TestOpenNames(t *testing.T) {
	m := api.Manifest{Wal: 12, Next: 9, Seq: 40, Mark: math.MinInt64}
	stay := []string{"manifest", "seg-1", "seg-2", "wal-12", "wal-13", "wal-20", "wal-120", "wal-99999", "wal-999999999", "wal-1000000000"}
	strangers := []string{"manifest.new", "manifest.", "manifes", "manifest-", "manifest1", "1", "12", "-12", "x", ".", "-", "seg", "seg-", "seg-0", "seg-01", "seg-3", "seg-8", "seg-9", "seg-12", "seg-1.", "seg--1", "sega1", "seg1", "xseg-1",
		"wal", "wal-", "wal-0", "wal-1", "wal-2", "wal-9", "wal-11", "wal-012", "wal-0012", "wal--12", "wal-12.", "wal-12x", "wal-1e9", "wal-x12", "wal.12", "wal12", "wal-wal-12", "xwal-12", "wal-0x20", "wal-1000000001", "wal-1000000012",
		"wal-9223372036854775807", "wal-9223372036854775808", "wal-18446744073709551628", "wal-4294967308", "wal-9999999999999999999999999999"}
	d := with(m, at(3), at(4, 4)[:1])
	for _, name := range append(slices.Clone(stay[3:]), strangers...) {
		one := d.Clone()
		lay(one, name, "")
		openPair(t, name, one)
		open(t, one)
		if slices.Contains(lists(one), name) != slices.Contains(stay, name) {
			t.Errorf("%s: %v", name, lists(one))
		}
	}
	for _, name := range append(slices.Clone(stay[3:]), strangers...) {
		d.Append(name, nil)
	}
	openPair(t, "all names", d)
	if n := changes(d, func() { open(t, d) }); n != len(strangers) {
		t.Errorf("%d changes, not %d", n, len(strangers))
	}
	slices.Sort(stay)
	checkFiles(t, d, stay...)
}

func TestOpenDeletesInTheOrderOfNames(t *testing.T) {
	names := []string{"a", "b.new", "manifest.new", "seg-10", "seg-9", "wal-01", "z"}
	d := three(t)
	for _, name := range names {
		lay(d, name, "bytes")
	}
	was := lists(d)
	for n := range names {
		one := armed(d.Clone(), n)
		refused(t, "down", one, api.ErrDown)
		one.Restart()
		left := slices.DeleteFunc(slices.Clone(was), func(name string) bool { return slices.Contains(names[:n], name) })
		checkFiles(t, one, left...)
		checkRecords(t, "Records", open(t, one).Records(), open(t, d.Clone()).Records())
	}
	one := armed(d.Clone(), len(names)) // the last file goes, and then the log can't be read
	refused(t, "down", one, api.ErrDown)
	one.Restart()
	if n := changes(one, func() { open(t, one) }); n != 0 {
		t.Errorf("%d changes", n)
	}
	open(t, armed(d.Clone(), len(names)+1))
	open(t, full(d.Clone()))
}

func TestOpenErrorsInOrder(t *testing.T) {
	refused(t, "nil", nil, api.ErrNil)
	refused(t, "down", armed(disk.New(), 0), api.ErrDown)
	refused(t, "down", armed(three(t), 0), api.ErrDown)

	d := three(t) // a manifest that is none, ahead of all else: nothing is deleted
	lay(d, "x", "")
	lay(d, "manifest", "x")
	was := state(d)
	refused(t, "manifest", d, api.ErrStore)
	checkSame(t, "manifest", d, was)

	for n := 1; n <= 3; n++ { // a segment, ahead of what is deleted
		d = three(t)
		lay(d, "x", "")
		d.Delete(segName(n))
		was = state(d)
		refused(t, "no segment", d, api.ErrStore)
		checkSame(t, "no segment", d, was)
		lay(d, segName(n), "x")
		was = state(d)
		refused(t, "no segment's bytes", d, api.ErrStore)
		checkSame(t, "no segment's bytes", d, was)
	}

	d = three(t) // what is deleted, ahead of the log
	lay(d, "x", "")
	lay(d, "wal-4", framed("x"))
	refused(t, "log, down", armed(d.Clone(), 0), api.ErrDown)
	refused(t, "log", d, api.ErrStore)
	checkFiles(t, d, "manifest", "seg-1", "seg-2", "seg-3", "wal-4")

	d = save(disk.New(), api.Manifest{Wal: last, Next: 1, Seq: 1}) // the log's files, ahead of what they hold
	lay(d, "x", "")
	openPair(t, "the last file", d)
	lay(d, logFile(last), framed("x"))
	refused(t, "too many files", d, api.ErrMany)
	checkFiles(t, d, "manifest", logFile(last))
}

func TestOpenOfSegments(t *testing.T) {
	first, second := numbered(1, at(3, 4, 9)...), numbered(4, at(-1, 4)...)
	m := api.Manifest{Wal: 1, Next: 3, Seq: 6, Mark: math.MinInt64}
	d := with(m, first, second)
	s := open(t, d)
	checkRecords(t, "Segment(0)", s.Segment(0).All(), first)
	checkRecords(t, "Segment(1)", s.Segment(1).All(), second)

	m = s.Manifest() // in the manifest's order, not in that of the numbers
	slices.Reverse(m.Segs)
	s = open(t, save(d.Clone(), m))
	checkRecords(t, "Segment(0)", s.Segment(0).All(), second)
	checkRecords(t, "Segment(1)", s.Segment(1).All(), first)

	for i := range m.Segs { // Count alone is held against the segment
		for _, n := range []int{-2, -1, 1, 2, 65530} {
			other := open(t, d.Clone()).Manifest()
			other.Segs[i].Count += n
			if other.Segs[i].Count > 0 {
				refused(t, "another Count", save(d.Clone(), other), api.ErrStore)
			}
		}
		other := open(t, d.Clone()).Manifest()
		other.Segs[i].Min, other.Segs[i].Max = -50, 1000
		open(t, save(d.Clone(), other))
	}

	b, _ := d.Read("seg-1")
	for i := range b {
		for k := range 8 {
			turned := d.Clone()
			turned.Delete("seg-1")
			turned.Append("seg-1", slices.Concat(b[:i], []byte{b[i] ^ 1<<k}, b[i+1:]))
			refused(t, "a turned bit", turned, api.ErrStore)
		}
		short := d.Clone()
		short.Delete("seg-1")
		short.Append("seg-1", b[:i])
		refused(t, "a piece", short, api.ErrStore)
	}
	lay(d, "seg-1", "x")
	refused(t, "a byte more", d, api.ErrStore)
}

func TestOpenOfSegmentsOfAnotherSeq(t *testing.T) {
	d := with(api.Manifest{Wal: 1, Next: 2, Seq: 3}, numbered(70, at(1, 2)...)) // only the log's numbers are asked
	s := open(t, d)
	put(t, s, 5)
	checkRecords(t, "Records", s.Records(), append(numbered(70, at(1, 2)...), numbered(3, at(5)...)...))
}

func TestOpenOfLogs(t *testing.T) {
	a, b, c := numbered(1, at(5, 3)...), numbered(3, at(4)...), numbered(4, at(9, -2, 9)...)
	all := slices.Concat(a, b, c)
	good := framed(batch(a...), batch(b...))
	for _, x := range []struct {
		what  string
		files []string
		want  int // how many records are found
		at    int // the file in which the log goes on
	}{
		{"one file", []string{good}, 3, 2},
		{"a file each", []string{framed(batch(a...)), framed(batch(b...)), framed(batch(c...))}, 6, 4},
		{"two files", []string{good, framed(batch(c...))}, 6, 3},
		{"empty files", []string{"", good, "", framed(batch(c...)), ""}, 6, 6},
		{"one batch", []string{framed(batch(all...))}, 6, 2},
		{"cut short", []string{good + framed(batch(c...))[:7], framed(batch(c...))}, 6, 3},
		{"cut short at the end", []string{good + framed(batch(c...))[:7]}, 3, 2},
		{"behind what is no frame", []string{good + "\x00" + framed(batch(c...))}, 3, 2},
		{"behind what is no frame a file follows", []string{good + "\x00" + framed("x"), framed(batch(c...))}, 6, 3},
		{"nothing but a length", []string{"\x05"}, 0, 2},
	} {
		d := disk.New()
		for i, f := range x.files {
			lay(d, logFile(i+1), f)
		}
		p := openPair(t, x.what, d)
		if p == nil || p.s.Head().Len() != x.want || p.s.Next() != uint64(x.want)+1 || p.x.number != x.at {
			t.Fatalf("%s: %d records", x.what, p.s.Head().Len())
		}
		p.Append(at(1, 1))
		p.Flush()
		if l, e := store.Open(p.d); e != 0 || len(l.Records()) != x.want+2 {
			t.Errorf("%s: %d", x.what, e)
		}
	}
}

func TestOpenOfAGap(t *testing.T) {
	d := disk.New()
	lay(d, "wal-1", framed(batch(numbered(1, at(5)...)...)))
	lay(d, "wal-3", framed("x")) // not read, and it stays
	s := open(t, d)
	checkRecords(t, "Records", s.Records(), numbered(1, at(5)...))
	checkFiles(t, d, "wal-1", "wal-3")
	d = save(d, api.Manifest{Wal: 2, Next: 1, Seq: 2, Mark: math.MinInt64})
	s = open(t, d)
	checkRecords(t, "Records", s.Records(), nil)
	checkFiles(t, d, "manifest", "wal-3")
}

func TestOpenOfBrokenLogs(t *testing.T) {
	ahead := numbered(1, at(5, 3)...)
	twice := numbered(3, at(4, 4)...)
	twice[1].Seq = 3
	gap := numbered(3, at(4, 4)...)
	gap[1].Seq = 5
	back := numbered(3, at(4, 4)...)
	back[0].Seq, back[1].Seq = 4, 3
	fine := batch(numbered(3, at(4, 4)...)...)
	for _, p := range []string{
		"", "x", "\x00", "\x00\x00", "\x80", "\x80\x00", "\x01", "\xff\xff\xff\xff\xff\xff\xff\xff\xff\x01",
		fine + "\x00", fine[:len(fine)-1], fine[1:], "\x01" + fine[1:], "\x03" + fine[1:], fine + fine,
		"\x01\x0a\x03\x00\x01\xff", "\x01\x0a\x03\x02\x01b\x00\x01a\x00\x00", "\x01\x0a\x03\x11",
		batch(numbered(1, at(4)...)...), batch(numbered(2, at(4)...)...), batch(numbered(4, at(4)...)...), batch(numbered(0, at(4)...)...), batch(numbered(math.MaxUint64, at(4)...)...),
		batch(numbered(2, at(4, 4)...)...), batch(numbered(4, at(4, 4)...)...), batch(twice...), batch(gap...), batch(back...), batch(ahead...),
	} {
		for _, files := range [][]string{
			{framed(batch(ahead...), p)},
			{framed(batch(ahead...)), framed(p)},
			{framed(batch(ahead...), p), framed(fine)},
			{framed(batch(ahead...)), "", framed(p, fine), ""},
			{framed(batch(ahead...), p) + "\x01"},
		} {
			d := disk.New()
			for i, f := range files {
				lay(d, logFile(i+1), f)
			}
			refused(t, fmt.Sprintf("% x", p), d, api.ErrStore)
			openPair(t, fmt.Sprintf("% x", p), d)
			if l := lists(d); len(l) != len(files) {
				t.Errorf("files: %v", l)
			}
		}
	}
	d := disk.New()
	lay(d, "wal-1", framed(batch(ahead...), fine))
	checkRecords(t, "Records", open(t, d).Records(), []api.Record{ahead[1], {Time: 4, Seq: 3, Line: "line"}, {Time: 4, Seq: 4, Line: "line"}, ahead[0]})
}

func TestOpenOfAnySeq(t *testing.T) {
	for _, seq := range []uint64{0, 1, 2, 77, 1 << 32, 1<<63 - 1, 1 << 63, math.MaxUint64 - 3, math.MaxUint64 - 1, math.MaxUint64} {
		d := save(disk.New(), api.Manifest{Wal: 1, Next: 1, Seq: seq, Mark: math.MinInt64})
		if s := open(t, d); s.Next() != seq {
			t.Errorf("Next: %d, not %d", s.Next(), seq)
		}
		for n := 1; n <= 5; n++ {
			one := d.Clone()
			lay(one, "wal-1", framed(batch(numbered(seq, many(n)...)...)))
			if uint64(n) > math.MaxUint64-seq { // behind it there is no number that a record could get
				refused(t, fmt.Sprint(n, " from ", seq), one, api.ErrStore)
				continue
			}
			p := openPair(t, fmt.Sprint(n, " from ", seq), one)
			if p.s.Next() != seq+uint64(n) || p.s.Head().Len() != n {
				t.Errorf("Next: %d", p.s.Next())
			}
			lay(one, "wal-2", framed(batch(numbered(seq, many(n)...)...))) // the next number has gone on
			refused(t, "twice", one, api.ErrStore)
		}
	}
}

func TestOpenOfLongBatches(t *testing.T) {
	for _, n := range []int{64, 65, 300, 5000} { // longer than Append takes, but batches
		d := disk.New()
		lay(d, "wal-1", framed(batch(numbered(1, many(n)...)...)))
		openPair(t, fmt.Sprint(n), d)
	}
	d := disk.New()
	for i := range 16 {
		lay(d, logFile(i+1), framed(batch(numbered(uint64(1+4096*i), many(4096)...)...)))
	}
	s := open(t, d)
	if s.Head().Len() != 65536 || s.Next() != 65537 {
		t.Errorf("%d records", s.Head().Len())
	}
	_, e := s.Append(at(1))
	check(t, "Append to a full head", e, api.ErrMany)
	lay(d, "wal-17", framed(batch(numbered(65537, at(1)...)...)))
	refused(t, "more than a head has", d, api.ErrStore)
}

// P17.2

func TestAppend(t *testing.T) {
	d := disk.New()
	s := open(t, d)
	labels := []api.Label{{Name: "a", Value: "1"}, {Name: "b", Value: "\u00e9"}}
	l := []api.Record{{Time: 9, Seq: 77, Labels: labels, Line: "x y"}, {Time: math.MinInt64, Seq: 0}, {Time: math.MaxInt64, Seq: math.MaxUint64, Line: "z"}}
	if n := changes(d, func() {
		got, e := s.Append(l)
		check(t, "Append", e, 0)
		checkRecords(t, "Append", got, numbered(1, l...))
	}); n != 2 {
		t.Errorf("%d changes", n)
	}
	want := framed(batch(numbered(1, l...)...))
	got, e := s.Append(l[:2])
	check(t, "Append", e, 0)
	checkRecords(t, "Append", got, numbered(4, l[:2]...))
	want += framed(batch(numbered(4, l[:2]...)...))
	d.Restart() // all is synced
	if b, _ := d.Read("wal-1"); string(b) != want {
		t.Errorf("wal-1: %q, not %q", b, want)
	}
	checkFiles(t, d, "wal-1")
	if s.Next() != 6 || s.Head().Len() != 5 || len(s.Head().Find("a=1")) != 2 {
		t.Errorf("%d, %d", s.Next(), s.Head().Len())
	}
	again := open(t, d)
	checkRecords(t, "Records", again.Records(), s.Records())
	put(t, again, 1)
	checkFiles(t, d, "wal-1", "wal-2")
}

func TestAppendErrorsInOrder(t *testing.T) {
	form := api.Record{Labels: []api.Label{{Name: "b"}, {Name: "a"}}}
	utf := api.Record{Line: "\xff"}
	long := api.Record{Line: strings.Repeat("x", 1025)}
	wide := api.Record{Line: strings.Repeat("x", 1024)}
	var l []api.Label
	for i := range 16 {
		l = append(l, api.Label{Name: "n" + string(rune('a'+i)), Value: strings.Repeat("v", 256)})
	}
	wide.Labels = l
	for _, x := range []struct {
		what string
		l    []api.Record
		want api.Errno
	}{
		{"none", nil, api.ErrMany},
		{"none", []api.Record{}, api.ErrMany},
		{"65", make([]api.Record, 65), api.ErrMany},
		{"66", make([]api.Record, 66), api.ErrMany},
		{"65 that are none", slices.Repeat([]api.Record{utf}, 65), api.ErrMany},
		{"1000", make([]api.Record, 1000), api.ErrMany},
		{"form", []api.Record{form}, api.ErrForm},
		{"utf", []api.Record{utf}, api.ErrUtf},
		{"long", []api.Record{long}, api.ErrLong},
		{"17 labels", []api.Record{{Labels: append(slices.Clone(l), api.Label{Name: "z"})}}, api.ErrMany},
		{"no name", []api.Record{{Labels: []api.Label{{Name: ""}}}}, record.Check(api.Record{Labels: []api.Label{{Name: ""}}})},
		{"the first of two", []api.Record{{}, form, utf}, api.ErrForm},
		{"the first of two", []api.Record{{}, utf, form}, api.ErrUtf},
		{"at the end", append(many(63), utf), api.ErrUtf},
		{"a record ahead of the batch's length", append(slices.Repeat([]api.Record{wide}, 63), utf), api.ErrUtf},
		{"the batch's length", slices.Repeat([]api.Record{wide}, 64), api.ErrLong},
		{"64", make([]api.Record, 64), 0},
	} {
		for _, fresh := range []func() *disk.Disk{disk.New, func() *disk.Disk { return three(t) }} {
			p := openPair(t, x.what, fresh())
			check(t, x.what, p.Append(x.l), x.want)

			p = openPair(t, x.what, fresh()) // and ahead of the disk's errors
			p.both(func(d *disk.Disk) { d.Fill(true) })
			want := x.want
			if want == 0 {
				want = api.ErrFull
			}
			check(t, x.what+", full", p.Append(x.l), want)
			p = openPair(t, x.what, fresh())
			p.both(func(d *disk.Disk) { d.Arm(0) })
			if want == api.ErrFull {
				want = api.ErrDown
			}
			got, e := p.s.Append(x.l)
			check(t, x.what+", down", e, want)
			checkRecords(t, x.what+", down", got, nil)
		}
	}
}

func TestAppendOfTheLongestBatch(t *testing.T) {
	l := slices.Repeat([]api.Record{{Line: strings.Repeat("x", 1024)}}, 63)
	l = append(l, api.Record{Line: strings.Repeat("y", 127)}) // by this one the batch has 65536 bytes
	l[63].Labels = []api.Label{{Name: "a", Value: strings.Repeat("v", 256)}, {Name: "b", Value: strings.Repeat("v", 256)}}
	size := len(batch(numbered(1, l...)...))
	l[63].Line = strings.Repeat("y", 127+65536-size-1) // its length has two bytes then
	if n := len(batch(numbered(1, l...)...)); n != 65536 {
		t.Fatalf("%d bytes", n)
	}
	p := openPair(t, "empty", disk.New())
	longer := slices.Clone(l)
	longer[63].Line += "y"
	check(t, "a byte more", p.Append(longer), api.ErrLong)
	checkFiles(t, p.d)
	for i := range longer { // the numbers that are handed in count for nothing
		longer[i].Seq = 0
		l[i].Seq = math.MaxUint64
	}
	check(t, "a byte more", p.Append(longer), api.ErrLong)
	check(t, "the longest", p.Append(l), 0)
	check(t, "with greater numbers", p.Append(l), api.ErrLong) // from 65 on: those from 128 on have two bytes
	checkRecords(t, "opened again", open(t, p.d).Records(), p.x.records())
}

func TestAppendToAFullHead(t *testing.T) {
	t.Parallel()
	p := openPair(t, "empty", disk.New())
	for range 1023 {
		p.s.Append(many(64))
		p.x.Append(many(64))
	}
	p.s.Append(many(62))
	p.x.Append(many(62))
	p.hold("65534 records")
	check(t, "three more", p.Append(many(3)), api.ErrMany)
	check(t, "three that are none", p.Append([]api.Record{{Line: "\xff"}, {}, {}}), api.ErrMany)
	check(t, "one that is none", p.Append([]api.Record{{Line: "\xff"}}), api.ErrUtf)
	check(t, "two more", p.Append(many(2)), 0)
	check(t, "one more", p.Append(many(1)), api.ErrMany)
	was := p.s.Records()
	checkRecords(t, "opened again", open(t, p.d.Clone()).Records(), was)
	check(t, "Flush", p.Flush(), 0)
	checkRecords(t, "Records", p.s.Records(), was)
	check(t, "behind the Flush", p.Append(many(64)), 0)
	openPair(t, "opened again", p.d)
}

func TestAppendAtTheNumbersEnd(t *testing.T) {
	for left := range uint64(70) { // numbers that can be given
		for _, n := range []int{1, 2, 63, 64} {
			p := openPair(t, "the end", save(disk.New(), api.Manifest{Wal: 1, Next: 1, Seq: math.MaxUint64 - left, Mark: math.MinInt64}))
			want := api.OK
			if uint64(n) > left {
				want = api.ErrMany
			}
			check(t, fmt.Sprintf("%d of %d", n, left), p.Append(many(n)), want)
			if want == 0 {
				check(t, "the rest and one", p.Append(many(int(left)-n+1)), api.ErrMany)
				openPair(t, "opened again", p.d)
			} else if n == 2 {
				check(t, "none", p.Append([]api.Record{{Line: "\xff"}, {}}), api.ErrMany) // ahead of what a record is
			}
		}
	}
	p := openPair(t, "the end", save(disk.New(), api.Manifest{Wal: 1, Next: 1, Seq: math.MaxUint64 - 1, Mark: math.MinInt64}))
	p.Append(at(1))
	if p.s.Next() != math.MaxUint64 || p.s.Records()[0].Seq != math.MaxUint64-1 {
		t.Errorf("%v", p.s.Records())
	}
	check(t, "Flush", p.Flush(), 0)
	check(t, "Append", p.Append(at(1)), api.ErrMany)
	openPair(t, "opened again", p.d)
}

func TestAppendOnAFullDisk(t *testing.T) {
	p := openPair(t, "three", three(t))
	for range 3 {
		was, next := state(p.d), p.s.Next()
		p.both(func(d *disk.Disk) { d.Fill(true) })
		check(t, "full", p.Append(at(1, 2)), api.ErrFull)
		p.both(func(d *disk.Disk) { d.Fill(false) })
		checkSame(t, "full", p.d, was)
		if p.s.Next() != next {
			t.Errorf("Next: %d", p.s.Next())
		}
		check(t, "not full", p.Append(at(1, 2)), 0)
	}
	openPair(t, "opened again", p.d)
}

func TestAppendOnADiskThatGoesDown(t *testing.T) {
	for n := range 3 {
		for _, fresh := range []func() *disk.Disk{disk.New, func() *disk.Disk { return three(t) }} {
			p := openPair(t, "down", fresh())
			p.both(func(d *disk.Disk) { d.Arm(n) })
			want := api.ErrDown
			if n == 2 {
				want = 0 // it goes down with the last change, which was done
			}
			check(t, "down", p.Append(at(1, 2)), want)
		}
	}
}

// P17.3

func TestFlush(t *testing.T) {
	d := disk.New()
	s := open(t, d)
	put(t, s, 30, -3, 12)
	put(t, s, 12)
	h := s.Head()
	was := s.Records()
	if n := changes(d, func() { flush(t, s) }); n != 8 { // three of the segment, four of the manifest, one of the log
		t.Errorf("%d changes", n)
	}
	checkFiles(t, d, "manifest", "seg-1")
	if h.Len() != 0 || s.Head() != h {
		t.Error("the head isn't empty")
	}
	checkRecords(t, "Records", s.Records(), was)
	checkRecords(t, "Segment(0)", s.Segment(0).All(), was)
	if m := s.Manifest(); !sameManifest(m, api.Manifest{Wal: 2, Next: 2, Seq: 5, Mark: math.MinInt64, Segs: []api.Seg{{Id: 1, Count: 4, Min: -3, Max: 30}}}) {
		t.Errorf("%v", m)
	}
	if m, e := manifest.Load(d); e != 0 || !sameManifest(m, s.Manifest()) {
		t.Errorf("%v, %d", m, e)
	}
	if b, e := d.Read("seg-1"); e != 0 || string(b) != segmentOf(was...) {
		t.Errorf("seg-1: %q, %d", b, e)
	}
	for _, spoil := range []func(){func() {}, func() { d.Fill(true) }, func() { d.Arm(0) }} { // the head is empty
		spoil()
		if n := changes(d, func() { check(t, "Flush", s.Flush(), 0) }); n != 0 && !d.Down() {
			t.Errorf("%d changes", n)
		}
	}
}

func TestFlushBelowTheMark(t *testing.T) {
	p := openPair(t, "empty", disk.New())
	p.Append(at(30, -3, 9, 10))
	p.Append(at(12, 8))
	p.Expire(10)
	p.Flush()
	if m := p.s.Manifest(); !slices.Equal(m.Segs, []api.Seg{{Id: 1, Count: 3, Min: 10, Max: 30}}) || m.Wal != 2 || m.Seq != 7 {
		t.Errorf("%v", m)
	}
	p.Append(at(9, -4))
	was := p.s.Next()
	if n := changes(p.d, func() { flush(t, p.s) }); n != 5 { // no segment
		t.Errorf("%d changes", n)
	}
	p.x.Flush()
	p.hold("all below")
	if m := p.s.Manifest(); len(m.Segs) != 1 || m.Next != 2 || m.Wal != 3 || m.Seq != was || p.s.Head().Len() != 0 {
		t.Errorf("%v", m)
	}
	openPair(t, "opened again", p.d)
	p.Append(at(11))
	p.Flush()
	if m := p.s.Manifest(); len(m.Segs) != 2 || m.Segs[1].Id != 2 || m.Next != 3 {
		t.Errorf("%v", m)
	}
}

// spoiled answers pairs of a store whose disk is made ready, so that the next call finds it full, or goes down behind each of its changes up to n.
func spoiled(t *testing.T, n int, fresh func() *pair, call func(what string, p *pair)) {
	t.Helper()
	for k := range n + 1 {
		p := fresh()
		p.both(func(d *disk.Disk) { d.Arm(k) })
		call(fmt.Sprint("down behind ", k), p)
		for more := range 2 { // and what is found again
			again := p.d.Clone()
			again.Restart(slices.Repeat([]int{more * math.MaxInt}, 20)...)
			openPair(t, fmt.Sprint("opened again, down behind ", k), again)
		}
	}
	p := fresh()
	p.both(func(d *disk.Disk) { d.Fill(true) })
	call("full", p)
	p.both(func(d *disk.Disk) { d.Fill(false) })
	call("not full", p)
	openPair(t, "opened again", p.d)
}

func TestFlushStepByStep(t *testing.T) {
	stores := map[string]func() *pair{
		"one batch": func() *pair {
			p := openPair(t, "one batch", disk.New())
			p.Append(at(4, 3))
			return p
		},
		"three segments": func() *pair { return openPair(t, "three segments", three(t)) },
		"nothing but expired": func() *pair {
			p := openPair(t, "expired", three(t))
			p.Expire(25)
			return p
		},
		"a file in the way": func() *pair {
			p := openPair(t, "in the way", three(t))
			p.both(func(d *disk.Disk) { lay(d, "seg-4", "xx"); lay(d, "manifest.new", "yy") })
			return p
		},
		"more files of the log": func() *pair {
			d := three(t)
			for range 3 {
				put(t, open(t, d), 3)
			}
			p := openPair(t, "more files", d)
			p.both(func(d *disk.Disk) { d.Delete("wal-5") }) // it counts as gone
			return p
		},
		"flushed in vain": func() *pair {
			p := openPair(t, "in vain", three(t))
			p.Append(at(2))
			p.both(func(d *disk.Disk) { d.Fill(true) })
			check(t, "full", p.Flush(), api.ErrFull)
			p.both(func(d *disk.Disk) { d.Fill(false) })
			p.Append(at(1))
			return p
		},
	}
	for _, fresh := range stores {
		seen := map[api.Errno]int{}
		spoiled(t, 14, fresh, func(what string, p *pair) {
			was := p.s.Records()
			seen[p.Flush()]++
			checkRecords(t, what, p.s.Records(), was)
		})
		if seen[0] == 0 || seen[api.ErrDown] == 0 || seen[api.ErrFull] != 1 {
			t.Errorf("%v", seen)
		}
	}
}

func TestFlushRotates(t *testing.T) {
	p := openPair(t, "empty", disk.New())
	p.Append(at(1))
	p.Expire(50)
	p.both(func(d *disk.Disk) { d.Fill(true) })
	check(t, "full", p.Flush(), api.ErrFull) // no segment: the log has rotated when the manifest can't be saved
	check(t, "full", p.Flush(), api.ErrFull)
	p.both(func(d *disk.Disk) { d.Fill(false) })
	p.Append(at(60))
	checkFiles(t, p.d, "manifest", "wal-1", "wal-2")
	checkRecords(t, "opened again", open(t, p.d.Clone()).Records(), numbered(2, at(60)...))
	p.Flush()
	checkFiles(t, p.d, "manifest", "seg-1")
	if m := p.s.Manifest(); m.Wal != 3 || m.Seq != 3 {
		t.Errorf("%v", m)
	}
	p.Append(at(70))
	p.both(func(d *disk.Disk) { d.Fill(true) })
	check(t, "full", p.Flush(), api.ErrFull) // a segment: the log hasn't
	p.both(func(d *disk.Disk) { d.Fill(false) })
	p.Append(at(71))
	checkFiles(t, p.d, "manifest", "seg-1", "wal-3")
	again := openPair(t, "opened again", p.d) // a log that has appended nothing stays at its number
	again.Flush()
	if m := again.s.Manifest(); m.Wal != 4 {
		t.Errorf("%v", m)
	}
	checkFiles(t, again.d, "manifest", "seg-1", "seg-2")
}

func TestFlushOfTooManySegments(t *testing.T) {
	t.Parallel()
	m := api.Manifest{Wal: 1, Next: 2000, Seq: 5000, Mark: math.MinInt64}
	var segs [][]api.Record
	for i := range 1023 {
		segs = append(segs, numbered(uint64(1+i), at(int64(i))...))
	}
	p := openPair(t, "1023", with(m, segs...))
	p.Append(at(2000, 2001))
	check(t, "the 1024th", p.Flush(), 0)
	check(t, "an empty head", p.Flush(), 0)
	p.Append(at(2002))
	if n := changes(p.d, func() { check(t, "one more", p.s.Flush(), api.ErrMany) }); n != 0 {
		t.Errorf("%d changes", n)
	}
	p.hold("one more")
	p.both(func(d *disk.Disk) { d.Fill(true) })
	check(t, "full", p.Flush(), api.ErrMany) // ahead of the disk's errors
	p.both(func(d *disk.Disk) { d.Fill(false) })
	if ok, e := p.Merge(); !ok || e != 0 { // Merge takes some away
		t.Errorf("Merge: %v, %d", ok, e)
	}
	check(t, "behind a merge", p.Flush(), 0)
	if n := len(p.s.Manifest().Segs); n != 1022 {
		t.Errorf("%d segments", n)
	}
	p = openPair(t, "1024", with(m, append(segs, at(7000))...))
	p.Append(at(1))
	check(t, "one more", p.Flush(), api.ErrMany)
	p.Expire(5) // five segments go, and all of the head
	check(t, "behind an Expire", p.Flush(), 0)
	p = openPair(t, "1024", with(m, append(segs, at(7000))...))
	p.Append(at(-1))
	p.Expire(0)
	check(t, "nothing but expired", p.Flush(), api.ErrMany)
}

func TestFlushAtTheSegmentsEnd(t *testing.T) {
	p := openPair(t, "the end", save(disk.New(), api.Manifest{Wal: 1, Next: last - 1, Seq: 1, Mark: math.MinInt64}))
	p.Append(at(1))
	check(t, "the last one", p.Flush(), 0)
	checkFiles(t, p.d, "manifest", "seg-999999999")
	p.Append(at(2))
	for range 2 {
		check(t, "none left", p.Flush(), api.ErrArg) // the manifest may not be
		checkFiles(t, p.d, "manifest", "seg-1000000000", "seg-999999999", "wal-2")
	}
	p.Append(at(3))
	check(t, "none left", p.Flush(), api.ErrArg)
	checkFiles(t, p.d, "manifest", "seg-1000000000", "seg-999999999", "wal-2", "wal-3")
	again := openPair(t, "opened again", p.d)
	checkFiles(t, again.d, "manifest", "seg-999999999", "wal-2", "wal-3")
	again.Expire(10)
	check(t, "nothing but expired", again.Flush(), 0)
}

func TestFlushAtTheLogsEnd(t *testing.T) {
	p := openPair(t, "the end", save(disk.New(), api.Manifest{Wal: last - 1, Next: 1, Seq: 1, Mark: math.MinInt64}))
	p.Append(at(1))
	check(t, "the last file", p.Flush(), 0)
	p.Append(at(2))
	checkFiles(t, p.d, "manifest", "seg-1", logFile(last))
	check(t, "none left", p.Flush(), api.ErrMany)
	checkFiles(t, p.d, "manifest", "seg-1", "seg-2", logFile(last)) // the segment came ahead of it
	checkRecords(t, "Records", p.s.Records(), numbered(1, at(1, 2)...))
	refused(t, "opened again", p.d.Clone(), api.ErrMany)
	p.Append(at(3))
	p.Expire(10)
	check(t, "nothing but expired", p.Flush(), api.ErrMany)
}

// P17.4

func TestMerge(t *testing.T) {
	p := openPair(t, "four", four(t))
	was := p.s.Records()
	head := p.s.Head().All()
	m := p.s.Manifest()
	if n := changes(p.d, func() {
		if ok, e := p.s.Merge(); !ok || e != 0 {
			t.Errorf("Merge: %v, %d", ok, e)
		}
	}); n != 11 { // three of the segment, four of the manifest, four files
		t.Errorf("%d changes", n)
	}
	p.x.Merge()
	p.hold("Merge")
	checkFiles(t, p.d, "manifest", "seg-5", "wal-5") // the log stays as it is
	m.Segs, m.Next = []api.Seg{{Id: 5, Count: 4, Min: -3, Max: 30}}, 6
	if got := p.s.Manifest(); !sameManifest(got, m) {
		t.Errorf("%v, not %v", got, m)
	}
	checkRecords(t, "Records", p.s.Records(), was)
	checkRecords(t, "Head", p.s.Head().All(), head)
	checkRecords(t, "Segment(0)", p.s.Segment(0).All(), []api.Record{{Time: -3, Seq: 3, Line: "line"}, {Time: 5, Seq: 1, Line: "line"}, {Time: 12, Seq: 4, Line: "line"}, {Time: 30, Seq: 2, Line: "line"}})
	for _, spoil := range []func(d *disk.Disk){func(*disk.Disk) {}, func(d *disk.Disk) { d.Fill(true) }, func(d *disk.Disk) { d.Arm(0) }} { // nothing to do
		p.both(spoil)
		if ok, e := p.s.Merge(); ok || e != 0 {
			t.Errorf("Merge: %v, %d", ok, e)
		}
	}
}

func TestMergeOfNone(t *testing.T) {
	for _, fresh := range []func() *disk.Disk{disk.New, func() *disk.Disk { return three(t) }} {
		p := openPair(t, "none", fresh())
		if n := changes(p.d, func() {
			if ok, e := p.s.Merge(); ok || e != 0 {
				t.Errorf("Merge: %v, %d", ok, e)
			}
		}); n != 0 {
			t.Errorf("%d changes", n)
		}
	}
}

func TestMergeAmongOthers(t *testing.T) {
	lists := [][]int64{{1}, {2, 2, 2, 2}, {9}, {3, 3, 3, 3, 3}, {-1, 40}, {1}, {8}, {5}, {6}, {2, 7, 9}, {0}}
	p := openPair(t, "many", flushed(t, append(lists, []int64{100})...))
	for {
		was := p.s.Records()
		ok, e := p.Merge()
		checkRecords(t, "Records", p.s.Records(), was)
		if e != 0 {
			t.Fatal(e)
		}
		if !ok {
			break
		}
		openPair(t, "opened again", p.d)
	}
	// 1, 3, 5, 6 are 12; 7, 8, 9, 10 are 13; these with 2 and 4 are 14
	if m := p.s.Manifest(); !slices.Equal(m.Segs, []api.Seg{{Id: 11, Count: 1}, {Id: 14, Count: 20, Min: -1, Max: 40}}) {
		t.Errorf("%v", m)
	}
	p.Flush()
	p.Append(at(5, 5, 5, 5))
	p.Flush()
	p.Merge()
	openPair(t, "opened again", p.d)
}

func TestMergeBelowTheMark(t *testing.T) {
	lists := [][]int64{{1, 50}, {2, 60}, {9, 5, 70}, {80, 50, 4}, {1, 2}}
	for mark := int64(0); mark <= 81; mark++ {
		p := openPair(t, "marks", flushed(t, lists...))
		p.Expire(mark)
		was := p.s.Records()
		p.Merge()
		checkRecords(t, "Records", p.s.Records(), was)
		if mark <= 50 && p.s.Segment(0).Len() != len(was)-p.s.Head().Len()+dead(p.s.Head().All(), mark) {
			t.Errorf("mark %d: %d records", mark, p.s.Segment(0).Len())
		}
		openPair(t, "opened again", p.d)
	}
}

// dead answers how many of the records are below the mark.
func dead(l []api.Record, mark int64) int {
	n := 0
	for _, r := range l {
		if r.Time < mark {
			n++
		}
	}
	return n
}

// expired is a store whose four segments are all below the mark, though none of them is gone.
func expired(head ...int64) *disk.Disk {
	d := with(api.Manifest{Wal: 1, Next: 5, Seq: 9, Mark: 100}, numbered(1, at(5, 6)...), numbered(3, at(5, 7)...), numbered(5, at(-5, 6)...), numbered(7, at(99)...))
	if len(head) > 0 {
		lay(d, "wal-1", framed(batch(numbered(9, at(head...)...)...)))
	}
	return d
}

func TestMergeOfNothingThatLives(t *testing.T) {
	d := expired(100, 3)
	lay(d, "seg-5", "x")
	p := openPair(t, "all below", d)
	checkRecords(t, "Records", p.s.Records(), numbered(9, at(100)...))
	if n := changes(p.d, func() {
		if ok, e := p.s.Merge(); !ok || e != 0 {
			t.Errorf("Merge: %v, %d", ok, e)
		}
	}); n != 8 { // no segment
		t.Errorf("%d changes", n)
	}
	p.x.Merge()
	p.hold("Merge")
	if m := p.s.Manifest(); len(m.Segs) != 0 || m.Next != 5 || m.Seq != 9 {
		t.Errorf("%v", m)
	}
	openPair(t, "opened again", p.d)
}

func TestMergeStepByStep(t *testing.T) {
	stores := map[string]func() *pair{
		"four": func() *pair { return openPair(t, "four", four(t)) },
		"no head": func() *pair {
			p := openPair(t, "no head", four(t))
			p.Flush()
			return p
		},
		"nothing that lives": func() *pair { return openPair(t, "nothing that lives", expired(5, 200)) },
		"a file in the way": func() *pair {
			p := openPair(t, "in the way", four(t))
			p.both(func(d *disk.Disk) { lay(d, "seg-5", "xx"); lay(d, "manifest.new", "yy") })
			return p
		},
		"files that are gone": func() *pair {
			p := openPair(t, "gone", four(t))
			p.both(func(d *disk.Disk) { d.Delete("seg-1"); d.Delete("seg-3") })
			return p
		},
	}
	for name, fresh := range stores {
		seen := map[string]int{}
		for k := range 15 {
			p := fresh()
			was := p.s.Records()
			p.both(func(d *disk.Disk) { d.Arm(k) })
			ok, e := p.Merge()
			seen[fmt.Sprint(ok, e)]++
			checkRecords(t, name, p.s.Records(), was)
			if name == "files that are gone" {
				continue
			}
			p.d.Restart()
			checkRecords(t, name+", opened again", openPair(t, name, p.d).s.Records(), was)
		}
		p := fresh()
		p.both(func(d *disk.Disk) { d.Fill(true) })
		if ok, e := p.Merge(); ok || e != api.ErrFull {
			t.Errorf("%s, full: %v, %d", name, ok, e)
		}
		p.both(func(d *disk.Disk) { d.Fill(false) })
		if ok, e := p.Merge(); !ok || e != 0 {
			t.Errorf("%s, not full: %v, %d", name, ok, e)
		}
		if seen["false 23"] == 0 || seen["true 23"] != 4 || seen["true 0"] == 0 || len(seen) != 3 {
			t.Errorf("%s: %v", name, seen)
		}
	}
}

func TestMergeAtTheSegmentsEnd(t *testing.T) {
	l := [][]api.Record{numbered(1, at(1)...), numbered(2, at(1)...), numbered(3, at(1)...), numbered(4, at(1)...)}
	p := openPair(t, "one left", with(api.Manifest{Wal: 1, Next: last - 1, Seq: 9}, l...))
	if ok, e := p.Merge(); !ok || e != 0 {
		t.Errorf("Merge: %v, %d", ok, e)
	}
	p = openPair(t, "none left", with(api.Manifest{Wal: 1, Next: last, Seq: 9}, l...))
	if ok, e := p.Merge(); ok || e != api.ErrArg {
		t.Errorf("Merge: %v, %d", ok, e)
	}
	checkFiles(t, p.d, "manifest", "seg-1", "seg-1000000000", "seg-2", "seg-3", "seg-4")
}

func TestMergeOfEqualRecords(t *testing.T) {
	one := numbered(3, at(1)...) // no store makes such segments: their records have no order
	p := openPair(t, "equal", with(api.Manifest{Wal: 1, Next: 5, Seq: 9}, one, numbered(2, at(1)...), one, numbered(1, at(5)...)))
	for range 2 {
		if ok, e := p.Merge(); ok || e != api.ErrArg {
			t.Errorf("Merge: %v, %d", ok, e)
		}
	}
	if n := changes(p.d, func() { p.s.Merge() }); n != 0 {
		t.Errorf("%d changes", n)
	}
	checkRecords(t, "Records", p.s.Records(), append(numbered(2, at(1)...), one[0], one[0], api.Record{Time: 5, Seq: 1, Line: "line"}))
}

func TestMergeOfTheGreatest(t *testing.T) {
	t.Parallel()
	p := openPair(t, "empty", disk.New())
	for range 4 {
		for range 256 {
			p.s.Append(many(64))
			p.x.Append(many(64))
		}
		check(t, "Flush", p.s.Flush(), 0)
		check(t, "Flush", p.x.Flush(), 0)
	}
	if ok, e := p.Merge(); !ok || e != 0 || p.s.Segment(0).Len() != 65536 {
		t.Errorf("Merge: %v, %d", ok, e)
	}
	openPair(t, "opened again", p.d)
}

// P17.5

func TestExpire(t *testing.T) {
	p := openPair(t, "lists", flushed(t, []int64{1, 50}, []int64{2, 6}, []int64{9, 5, 70}, []int64{7}, []int64{80, 3}))
	if n := changes(p.d, func() { check(t, "Expire", p.s.Expire(8), 0) }); n != 6 { // four of the manifest, two files
		t.Errorf("%d changes", n)
	}
	p.x.Expire(8)
	p.hold("Expire(8)")
	checkFiles(t, p.d, "manifest", "seg-1", "seg-3", "wal-5")
	if l := timesOf(p.s.Records()); !slices.Equal(l, []int64{9, 50, 70, 80}) {
		t.Errorf("%v", l)
	}
	if m := p.s.Manifest(); m.Mark != 8 || m.Wal != 5 || m.Next != 5 || m.Seq != 9 {
		t.Errorf("%v", m)
	}
	if p.s.Segment(0).Len() != 2 || p.s.Head().Len() != 2 { // what is below the mark lies there still
		t.Error("a segment or the head has changed")
	}
	openPair(t, "opened again", p.d)
	p.Expire(50)
	p.Expire(51)
	checkFiles(t, p.d, "manifest", "seg-3", "wal-5")
	p.Expire(math.MaxInt64)
	checkFiles(t, p.d, "manifest", "wal-5")
	p.Append(at(math.MaxInt64, math.MaxInt64-1))
	if l := timesOf(p.s.Records()); !slices.Equal(l, []int64{math.MaxInt64}) {
		t.Errorf("%v", l)
	}
}

func TestExpireNotAbove(t *testing.T) {
	for _, mark := range []int64{math.MinInt64, math.MinInt64 + 1, -7, 0, 10, math.MaxInt64 - 1, math.MaxInt64} {
		p := openPair(t, "marks", four(t))
		p.Expire(mark)
		was := state(p.d)
		for _, spoil := range []func(d *disk.Disk){func(*disk.Disk) {}, func(d *disk.Disk) { d.Fill(true) }, func(d *disk.Disk) { d.Arm(0) }} {
			p.both(spoil)
			for _, m := range []int64{math.MinInt64, mark - 1, mark, min(0, mark)} {
				if m <= mark {
					check(t, fmt.Sprintf("Expire(%d) behind %d", m, mark), p.s.Expire(m), 0)
				}
			}
		}
		p.d.Restart()
		checkSame(t, "not above", p.d, was)
		if m := p.s.Manifest(); m.Mark != mark {
			t.Errorf("Mark: %d, not %d", m.Mark, mark)
		}
	}
	s := open(t, disk.New())
	if n := changes(disk.New(), func() { check(t, "at first", s.Expire(math.MinInt64), 0) }); n != 0 {
		t.Errorf("%d changes", n)
	}
}

func TestExpireAtTheEdge(t *testing.T) {
	for _, edge := range []int64{math.MinInt64 + 1, -1, 0, 1, 1 << 40, math.MaxInt64} {
		p := openPair(t, "edge", flushed(t, []int64{edge, edge - 1}, []int64{edge - 1}, []int64{edge - 1, edge}))
		p.Expire(edge)
		if l := timesOf(p.s.Records()); !slices.Equal(l, []int64{edge, edge}) {
			t.Errorf("%d: %v", edge, l)
		}
		checkFiles(t, p.d, "manifest", "seg-1", "wal-3")
	}
}

func TestExpireStepByStep(t *testing.T) {
	marks := map[int64]int{}
	spoiled(t, 9, func() *pair { return openPair(t, "four", four(t)) }, func(what string, p *pair) {
		was := p.s.Records()
		e := p.Expire(13)
		m := p.s.Manifest()
		marks[m.Mark]++
		switch m.Mark {
		case math.MinInt64: // not saved: all is as it was
			checkRecords(t, what, p.s.Records(), was)
			if e == 0 || len(m.Segs) != 4 {
				t.Errorf("%s: %v, %d", what, m, e)
			}
		case 13:
			if l := timesOf(p.s.Records()); !slices.Equal(l, []int64{20, 30}) || len(m.Segs) != 1 {
				t.Errorf("%s: %v, %v", what, m, l)
			}
		default:
			t.Errorf("%s: %v", what, m)
		}
	})
	if marks[math.MinInt64] != 5 || marks[13] != 7 { // down behind 0 to 3, and full; down behind 4 to 9, and no longer full
		t.Errorf("%v", marks)
	}
}

func TestExpireOfAFileThatIsGone(t *testing.T) {
	p := openPair(t, "four", four(t))
	p.both(func(d *disk.Disk) { d.Delete("seg-3") })
	check(t, "Expire", p.Expire(13), api.ErrNone) // of seg-1, seg-3, seg-4
	checkFiles(t, p.d, "manifest", "seg-2", "seg-4", "wal-5")
	if m := p.s.Manifest(); m.Mark != 13 || len(m.Segs) != 1 {
		t.Errorf("%v", m)
	}
	open(t, p.d)
	checkFiles(t, p.d, "manifest", "seg-2", "wal-5")
}

// P17.6

func TestRecordsAreInOrder(t *testing.T) {
	s := open(t, flushed(t, []int64{5, 1, 5}, []int64{5, 0, 9}, []int64{1, 5, 9, 3}))
	want := []api.Record{{Time: 0, Seq: 5}, {Time: 1, Seq: 2}, {Time: 1, Seq: 7}, {Time: 3, Seq: 10}, {Time: 5, Seq: 1}, {Time: 5, Seq: 3}, {Time: 5, Seq: 4}, {Time: 5, Seq: 8}, {Time: 9, Seq: 6}, {Time: 9, Seq: 9}}
	for i := range want {
		want[i].Line = "line"
	}
	checkRecords(t, "Records", s.Records(), want)
	s.Expire(5)
	checkRecords(t, "Records", s.Records(), want[4:])
	s.Flush()
	checkRecords(t, "Records", s.Records(), want[4:])
}

func TestSegments(t *testing.T) {
	s := open(t, three(t))
	for _, i := range []int{-1, 3, 4, math.MinInt, math.MaxInt, 1 << 32} {
		if s.Segment(i) != nil {
			t.Errorf("Segment(%d)", i)
		}
	}
	for i, n := range []int64{5, 30, -3} {
		if l := s.Segment(i).All(); len(l) != 1 || l[0].Time != n {
			t.Errorf("Segment(%d): %v", i, l)
		}
	}
	if p := s.Segment(1).Find("line"); !slices.Equal(p, []uint64{0}) || !s.Segment(1).May(0, "line") {
		t.Errorf("%v", p)
	}
}

func TestHeadIsTheHeadItself(t *testing.T) {
	s := open(t, three(t))
	h := s.Head()
	if h == nil || h.Len() != 2 {
		t.Fatal("no head")
	}
	put(t, s, 9)
	if h.Len() != 3 || s.Head() != h {
		t.Error("another head behind an Append")
	}
	flush(t, s)
	if h.Len() != 0 || s.Head() != h {
		t.Error("another head behind a Flush")
	}
	put(t, s, 9)
	s.Merge()
	s.Expire(100)
	if h.Len() != 1 || s.Head() != h {
		t.Error("another head behind a Merge and an Expire")
	}
}

// P17.8

func TestNil(t *testing.T) {
	var s *store.Store
	l, e := s.Append(at(1))
	check(t, "Append", e, api.ErrNil)
	_, e = s.Append(nil)
	check(t, "Append", e, api.ErrNil)
	check(t, "Flush", s.Flush(), api.ErrNil)
	ok, e := s.Merge()
	check(t, "Merge", e, api.ErrNil)
	check(t, "Expire", s.Expire(5), api.ErrNil)
	check(t, "Expire", s.Expire(math.MinInt64), api.ErrNil)
	if len(l) != 0 || ok || len(s.Records()) != 0 || !sameManifest(s.Manifest(), api.Manifest{}) || s.Next() != 0 || s.Head() != nil || s.Segment(0) != nil {
		t.Error("a nil store")
	}
}

func TestWhatIsHandedInStays(t *testing.T) {
	s := open(t, disk.New())
	line := []byte("a line")
	label := []api.Label{{Name: "a", Value: "1"}, {Name: "spare", Value: "room"}}
	l := append(make([]api.Record, 0, 5), api.Record{Time: 4, Seq: 9, Labels: label[:1], Line: string(line)}, api.Record{Time: 2, Seq: 9})
	room := l[:5]
	got, e := s.Append(l)
	check(t, "Append", e, 0)
	if l[0].Seq != 9 || l[1].Seq != 9 || l[0].Time != 4 || label[0].Name != "a" || label[1].Name != "spare" || !same(room[2], api.Record{}) {
		t.Errorf("%v, %v", room, label)
	}
	label[0].Value, l[0].Line, l[1].Time = "2", "x", 7 // nor is it kept
	want := []api.Record{{Time: 4, Seq: 1, Labels: []api.Label{{Name: "a", Value: "1"}}, Line: "a line"}, {Time: 2, Seq: 2}}
	checkRecords(t, "Append", got, want)
	slices.Reverse(want)
	checkRecords(t, "Records", s.Records(), want)
}

func TestAnswersAreNewMemory(t *testing.T) {
	s := open(t, disk.New())
	l := []api.Record{{Time: 4, Labels: []api.Label{{Name: "a", Value: "1"}}, Line: "x"}, {Time: 5, Labels: []api.Label{{Name: "a", Value: "1"}}, Line: "x"}}
	spoil := func(l []api.Record) {
		for i := range l {
			l[i].Time, l[i].Line = -100, "spoiled"
			for k := range l[i].Labels {
				l[i].Labels[k].Value = "spoiled"
			}
			l[i].Labels = append(l[i].Labels, api.Label{Name: "spoiled"})
		}
		clear(l[:cap(l)])
	}
	for range 6 {
		got, _ := s.Append(l)
		spoil(got)
	}
	want := numbered(1, slices.Concat(l, l, l, l, l, l)...)
	slices.SortFunc(want, record.Compare)
	for range 2 {
		spoil(s.Records())
		checkRecords(t, "Records", s.Records(), want)
		flush(t, s)
	}
	for range 3 {
		s.Append(l)
		flush(t, s)
	}
	m := s.Manifest()
	clear(m.Segs[:cap(m.Segs)])
	if m := s.Manifest(); len(m.Segs) != 4 || m.Segs[0].Count != 12 || m.Segs[3].Id != 4 {
		t.Errorf("%v", m)
	}
	m = s.Manifest()
	_ = append(m.Segs[:2], api.Seg{Id: 99})
	was := s.Manifest()
	s.Append(l)
	flush(t, s)
	if m := s.Manifest(); len(m.Segs) != 5 || !slices.Equal(m.Segs[:4], was.Segs) {
		t.Errorf("%v", m)
	}
	if len(was.Segs) != 4 { // nor does a copy change with the store
		t.Errorf("%v", was)
	}
	old := s.Segment(1)
	s.Merge()
	s.Expire(5)
	if len(was.Segs) != 4 || was.Mark != math.MinInt64 || old.Len() != 2 {
		t.Errorf("%v", was)
	}
}

func TestTwoStoresShareNothing(t *testing.T) {
	a, b := open(t, disk.New()), open(t, disk.New())
	put(t, a, 5)
	if b.Next() != 1 || len(b.Records()) != 0 {
		t.Error("the other one has it too")
	}
	put(t, b, 9, 9)
	flush(t, b)
	if a.Next() != 2 || len(a.Manifest().Segs) != 0 {
		t.Error("the other one has it too")
	}
}

func TestManyAtOnce(t *testing.T) {
	var all sync.WaitGroup
	for k := range 8 {
		all.Go(func() {
			s, _ := store.Open(disk.New())
			for i := range 40 {
				s.Append(at(int64(i*k), 5))
				s.Flush()
				s.Merge()
			}
			if len(s.Records()) != 80 || s.Next() != 81 {
				t.Errorf("%d records", len(s.Records()))
			}
		})
	}
	all.Wait()
	s := open(t, four(t))
	for range 8 { // asking changes nothing
		all.Go(func() {
			if len(s.Records()) != 6 || s.Next() != 7 || len(s.Manifest().Segs) != 4 || s.Segment(3).Len() != 1 || s.Head().Len() != 2 {
				t.Error("asked at once")
			}
		})
	}
	all.Wait()
}

func TestNumbersAreThoseOfTheDocument(t *testing.T) {
	if api.MaxBatch != 64 || api.MaxFrame != 65536 || api.Fan != 4 || wal.Name(last) != logFile(last) || wal.Name(last+1) != "" {
		t.Error("other limits than the document's")
	}
}
