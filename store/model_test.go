package store_test

import (
	"cmp"
	"fmt"
	"math"
	"math/big"
	"regexp"
	"slices"
	"strings"
	"testing"

	"garner/api"
	"garner/disk"
	"garner/frame"
	"garner/manifest"
	"garner/record"
	"garner/segment"
	"garner/store"
)

// The model: the chapter's words.

// model is a store on a disk of its own. Its segments are lists of records, and it does the log's changes of the disk itself.
type model struct {
	d        *disk.Disk
	m        api.Manifest
	segs     [][]api.Record // in the order of the manifest's Segs
	head     []api.Record   // in the order of their numbers
	next     uint64
	number   int // the log's
	have     int // the least number of a file that the log may still have
	appended bool
}

var logName = regexp.MustCompile(`^wal-([1-9][0-9]*)$`)

// logFrom tells whether that is the name of a log's file whose number is at least from.
func logFrom(name string, from int) bool {
	l := logName.FindStringSubmatch(name)
	if l == nil {
		return false
	}
	n, _ := new(big.Int).SetString(l[1], 10)
	return n.Cmp(big.NewInt(int64(from))) >= 0 && n.Cmp(big.NewInt(1000000000)) <= 0
}

// segName answers the name of the file of the segment n.
func segName(n int) string { return fmt.Sprintf("seg-%d", n) }

// logFile answers the name of the log's file n.
func logFile(n int) string { return fmt.Sprintf("wal-%d", n) }

// openModel does what the chapter's words say of Open.
func openModel(d *disk.Disk) (*model, api.Errno) {
	if d == nil {
		return nil, api.ErrNil
	}
	m, e := manifest.Load(d)
	if e != 0 {
		return nil, e
	}
	x := &model{d: d, m: m, next: m.Seq, number: m.Wal, have: m.Wal}
	own := []string{"manifest"}
	for _, s := range m.Segs {
		own = append(own, segName(s.Id))
		b, e := d.Read(segName(s.Id))
		if e == api.ErrNone {
			return nil, api.ErrStore
		}
		if e != 0 {
			return nil, e
		}
		g, e := segment.Open(b)
		if e != 0 || g.Len() != s.Count {
			return nil, api.ErrStore
		}
		x.segs = append(x.segs, g.All())
	}
	names, e := d.List()
	if e != 0 {
		return nil, e
	}
	for _, name := range names {
		if slices.Contains(own, name) || logFrom(name, m.Wal) {
			continue
		}
		if e := d.Delete(name); e != 0 && e != api.ErrNone {
			return nil, e
		}
	}
	if e := x.readLog(); e != 0 {
		return nil, e
	}
	return x, 0
}

// readLog reads the log's files up to the first number of which there is none.
func (x *model) readLog() api.Errno {
	var held [][]byte
	for ; x.number <= 1000000000; x.number++ {
		b, e := x.d.Read(logFile(x.number))
		if e == api.ErrNone {
			return x.hold(held)
		}
		if e != 0 {
			return e
		}
		for at := 0; ; {
			p, to, e := frame.Read(b, at)
			if e != 0 {
				break
			}
			held = append(held, p)
			at = to
		}
	}
	return api.ErrMany
}

// hold lays what the log holds into the head.
func (x *model) hold(held [][]byte) api.Errno {
	for _, p := range held {
		l, e := record.GetAll(p)
		if e != 0 || len(l) == 0 {
			return api.ErrStore
		}
		for _, r := range l {
			if r.Seq != x.next || x.next == math.MaxUint64 {
				return api.ErrStore
			}
			x.next++
		}
		x.head = append(x.head, l...)
	}
	if len(x.head) > 65536 {
		return api.ErrStore
	}
	return 0
}

// Append does what the chapter's words say of it.
func (x *model) Append(l []api.Record) ([]api.Record, api.Errno) {
	end := new(big.Int).SetUint64(x.next)
	end.Add(end, big.NewInt(int64(len(l))))
	if len(l) == 0 || len(l) > 64 || len(x.head)+len(l) > 65536 || end.Cmp(new(big.Int).SetUint64(math.MaxUint64)) > 0 {
		return nil, api.ErrMany
	}
	for _, r := range l {
		if e := record.Check(r); e != 0 {
			return nil, e
		}
	}
	l = slices.Clone(l)
	for i := range l {
		l[i].Seq = x.next + uint64(i)
	}
	b, e := record.PutAll(l...)
	if e != 0 {
		panic(e)
	}
	if len(b) > 65536 {
		return nil, api.ErrLong
	}
	f, e := frame.Frame(b)
	if e != 0 {
		panic(e)
	}
	if e := x.d.Append(logFile(x.number), f); e != 0 {
		return nil, e
	}
	x.appended = true
	if e := x.d.Sync(logFile(x.number)); e != 0 {
		return nil, e
	}
	x.head = append(x.head, l...)
	x.next += uint64(len(l))
	return l, 0
}

// living answers the records of l whose Time isn't below the mark, in their order.
func (x *model) living(l []api.Record) []api.Record {
	var alive []api.Record
	for _, r := range l {
		if r.Time >= x.m.Mark {
			alive = append(alive, r)
		}
	}
	slices.SortFunc(alive, func(a, b api.Record) int {
		return cmp.Or(cmp.Compare(a.Time, b.Time), cmp.Compare(a.Seq, b.Seq))
	})
	return alive
}

// lay lays the segment of l into the file of the manifest's Next, and puts it at the end of m and segs.
func (x *model) lay(l []api.Record, m *api.Manifest, segs *[][]api.Record) api.Errno {
	if len(l) == 0 {
		return 0
	}
	b, e := segment.Write(l)
	if e != 0 {
		return e
	}
	name := segName(x.m.Next)
	if e := x.d.Delete(name); e != 0 && e != api.ErrNone {
		return e
	}
	if e := x.d.Append(name, b); e != 0 {
		return e
	}
	if e := x.d.Sync(name); e != 0 {
		return e
	}
	s := api.Seg{Id: x.m.Next, Count: len(l), Min: l[0].Time, Max: l[0].Time}
	for _, r := range l {
		s.Min, s.Max = min(s.Min, r.Time), max(s.Max, r.Time)
	}
	m.Next = x.m.Next + 1
	m.Segs = append(m.Segs, s)
	*segs = append(*segs, l)
	return 0
}

// Flush does what the chapter's words say of it.
func (x *model) Flush() api.Errno {
	if len(x.head) == 0 {
		return 0
	}
	if len(x.m.Segs) == 1024 {
		return api.ErrMany
	}
	m, segs := x.m, slices.Clone(x.segs)
	m.Segs = slices.Clone(m.Segs)
	if e := x.lay(x.living(x.head), &m, &segs); e != 0 {
		return e
	}
	if x.number == 1000000000 {
		return api.ErrMany
	}
	if x.appended {
		x.number, x.appended = x.number+1, false
	}
	m.Wal, m.Seq = x.number, x.next
	if e := manifest.Save(x.d, m); e != 0 {
		return e
	}
	x.m, x.segs, x.head = m, segs, nil
	for ; x.have < m.Wal; x.have++ {
		if e := x.d.Delete(logFile(x.have)); e != 0 && e != api.ErrNone {
			return e
		}
	}
	return 0
}

// tier answers the greatest t with 4^t at most n, which is at least 1.
func tier(n int) int {
	t := 0
	for ; n >= 4; n /= 4 {
		t++
	}
	return t
}

// four answers the places of the four segments that are merged next.
func (x *model) four() []int {
	for t := range 20 {
		var l []int
		sum := 0
		for i, s := range x.m.Segs {
			if tier(s.Count) == t && len(l) < 4 {
				l = append(l, i)
				sum += s.Count
			}
		}
		if len(l) == 4 && sum <= 65536 {
			return l
		}
	}
	return nil
}

// Merge does what the chapter's words say of it.
func (x *model) Merge() (bool, api.Errno) {
	places := x.four()
	if places == nil {
		return false, 0
	}
	m := x.m
	m.Segs = nil
	var segs [][]api.Record
	var l []api.Record
	var gone []string
	for i, s := range x.m.Segs {
		if slices.Contains(places, i) {
			l = append(l, x.segs[i]...)
			gone = append(gone, segName(s.Id))
		} else {
			m.Segs = append(m.Segs, s)
			segs = append(segs, x.segs[i])
		}
	}
	if e := x.lay(x.living(l), &m, &segs); e != 0 {
		return false, e
	}
	if e := manifest.Save(x.d, m); e != 0 {
		return false, e
	}
	x.m, x.segs = m, segs
	for _, name := range gone {
		if e := x.d.Delete(name); e != 0 && e != api.ErrNone {
			return true, e
		}
	}
	return true, 0
}

// Expire does what the chapter's words say of it.
func (x *model) Expire(mark int64) api.Errno {
	if mark <= x.m.Mark {
		return 0
	}
	m := x.m
	m.Mark, m.Segs = mark, nil
	var segs [][]api.Record
	var gone []string
	for i, s := range x.m.Segs {
		if s.Max < mark {
			gone = append(gone, segName(s.Id))
		} else {
			m.Segs = append(m.Segs, s)
			segs = append(segs, x.segs[i])
		}
	}
	if e := manifest.Save(x.d, m); e != 0 {
		return e
	}
	x.m, x.segs = m, segs
	for _, name := range gone {
		if e := x.d.Delete(name); e != 0 {
			return e
		}
	}
	return 0
}

// records answers what the model has.
func (x *model) records() []api.Record {
	return x.living(slices.Concat(append(slices.Clone(x.segs), x.head)...))
}

// Disks

// contents tells what stands in a disk's files.
func contents(d *disk.Disk) string {
	l, e := d.List()
	var s strings.Builder
	fmt.Fprint(&s, e)
	for _, name := range l {
		b, e := d.Read(name)
		fmt.Fprintf(&s, " %s %d %q", name, e, b)
	}
	return s.String()
}

// state tells all of a disk that can be told: how many changes are left (of the first 50), whether it is full, its files, and what of them is synced.
func state(d *disk.Disk) string {
	left := 0
	for c := d.Clone(); !c.Down() && left < 50; left++ {
		c.Sync("none")
	}
	s := fmt.Sprint(left, " ", d.Clone().Append("probe", nil))
	all, synced := d.Clone(), d.Clone()
	synced.Restart()
	all.Restart(slices.Repeat([]int{math.MaxInt}, 1100)...)
	return s + " all: " + contents(all) + " synced: " + contents(synced)
}

// lists answers a disk's names.
func lists(d *disk.Disk) []string {
	l, _ := d.List()
	return l
}

// changes answers how many changes of d the call does.
func changes(d *disk.Disk, call func()) int {
	const many = 10000
	d.Arm(many)
	call()
	left := 0
	for c := d.Clone(); !c.Down(); left++ {
		c.Sync("none")
	}
	d.Arm(-1)
	return many - left
}

// armed answers the disk, which goes down behind n changes.
func armed(d *disk.Disk, n int) *disk.Disk {
	d.Arm(n)
	return d
}

// full answers the disk, full.
func full(d *disk.Disk) *disk.Disk {
	d.Fill(true)
	return d
}

// Records

// same tells whether two records are the same.
func same(a, b api.Record) bool {
	return a.Time == b.Time && a.Seq == b.Seq && a.Line == b.Line && slices.Equal(a.Labels, b.Labels)
}

// sameManifest tells whether two manifests are the same.
func sameManifest(a, b api.Manifest) bool {
	return a.Wal == b.Wal && a.Next == b.Next && a.Seq == b.Seq && a.Mark == b.Mark && slices.Equal(a.Segs, b.Segs)
}

// at answers records of those times, without numbers.
func at(times ...int64) []api.Record {
	var l []api.Record
	for _, n := range times {
		l = append(l, api.Record{Time: n, Line: "line"})
	}
	return l
}

// numbered answers the records with the numbers from n on.
func numbered(n uint64, l ...api.Record) []api.Record {
	l = slices.Clone(l)
	for i := range l {
		l[i].Seq = n + uint64(i)
	}
	return l
}

// timesOf answers the records' times.
func timesOf(l []api.Record) []int64 {
	var times []int64
	for _, r := range l {
		times = append(times, r.Time)
	}
	return times
}

// brief answers the beginning of what a test tells.
func brief(x any) string {
	s := fmt.Sprint(x)
	if len(s) > 400 {
		return fmt.Sprintf("%s.. (%d bytes)", s[:400], len(s))
	}
	return s
}

// check checks a call's error.
func check(t *testing.T, what string, e, want api.Errno) {
	t.Helper()
	if e != want {
		t.Errorf("%s: %d, not %d", what, e, want)
	}
}

// checkRecords checks a list of records.
func checkRecords(t *testing.T, what string, got, want []api.Record) {
	t.Helper()
	if !slices.EqualFunc(got, want, same) {
		t.Errorf("%s: %d: %s, not %d: %s", what, len(got), brief(got), len(want), brief(want))
	}
}

// checkFiles checks which files there are.
func checkFiles(t *testing.T, d *disk.Disk, want ...string) {
	t.Helper()
	if l := lists(d); !slices.Equal(l, want) {
		t.Errorf("files: %s, not %s", brief(l), brief(want))
	}
}

// checkSame checks that a disk is as it was.
func checkSame(t *testing.T, what string, d *disk.Disk, was string) {
	t.Helper()
	if s := state(d); s != was {
		t.Errorf("%s: the disk is %s, not %s", what, brief(s), brief(was))
	}
}

// open answers the store on d.
func open(t *testing.T, d *disk.Disk) *store.Store {
	t.Helper()
	s, e := store.Open(d)
	if e != 0 || s == nil {
		t.Fatalf("Open: %v, %d", s, e)
	}
	return s
}

// put appends records of those times.
func put(t *testing.T, s *store.Store, times ...int64) {
	t.Helper()
	if l, e := s.Append(at(times...)); e != 0 || len(l) != len(times) {
		t.Fatalf("Append: %d records, %d", len(l), e)
	}
}

// flush flushes the store.
func flush(t *testing.T, s *store.Store) {
	t.Helper()
	if e := s.Flush(); e != 0 {
		t.Fatalf("Flush: %d", e)
	}
}

// refused checks that Open of d answers that error and no store.
func refused(t *testing.T, what string, d *disk.Disk, want api.Errno) {
	t.Helper()
	if s, e := store.Open(d); s != nil || e != want {
		t.Errorf("%s: Open: %v, %d, not %d", what, s != nil, e, want)
	}
}

// pair is a store and a model of it, on disks that are the same.
type pair struct {
	t *testing.T
	s *store.Store
	d *disk.Disk
	x *model
}

// openPair opens a store and a model on disks that are the same as d; nil, if there is none.
func openPair(t *testing.T, what string, d *disk.Disk) *pair {
	t.Helper()
	p := &pair{t: t, d: d.Clone()}
	other := d.Clone()
	var e, want api.Errno
	p.s, e = store.Open(p.d)
	p.x, want = openModel(other)
	if e != want || (p.s == nil) != (p.x == nil) {
		t.Fatalf("%s: Open: %d, not %d, of %s", what, e, want, brief(state(d)))
	}
	checkSame(t, what+": Open", p.d, state(other))
	if p.s == nil {
		return nil
	}
	p.hold(what + ": Open")
	return p
}

// hold holds the store against the model, and its disk against the model's.
func (p *pair) hold(what string) {
	p.t.Helper()
	checkSame(p.t, what, p.d, state(p.x.d))
	checkRecords(p.t, what+": Records", p.s.Records(), p.x.records())
	if m := p.s.Manifest(); !sameManifest(m, p.x.m) {
		p.t.Errorf("%s: Manifest: %v, not %v", what, m, p.x.m)
	}
	if n := p.s.Next(); n != p.x.next {
		p.t.Errorf("%s: Next: %d, not %d", what, n, p.x.next)
	}
	for i := -1; i <= len(p.x.segs); i++ {
		g := p.s.Segment(i)
		if (g != nil) != (i >= 0 && i < len(p.x.segs)) {
			p.t.Errorf("%s: Segment(%d): %v", what, i, g != nil)
		} else if g != nil {
			checkRecords(p.t, fmt.Sprintf("%s: Segment(%d)", what, i), g.All(), p.x.segs[i])
		}
	}
	if l := p.s.Head().All(); len(l) != len(p.x.head) {
		p.t.Errorf("%s: Head: %d records, not %d", what, len(l), len(p.x.head))
	} else {
		slices.SortFunc(l, func(a, b api.Record) int { return cmp.Compare(a.Seq, b.Seq) })
		checkRecords(p.t, what+": Head", l, p.x.head)
	}
	if p.t.Failed() {
		p.t.FailNow()
	}
}

// Append appends to both.
func (p *pair) Append(l []api.Record) api.Errno {
	p.t.Helper()
	what := fmt.Sprintf("Append of %d: %s", len(l), brief(l))
	want, f := p.x.Append(l)
	got, e := p.s.Append(l)
	check(p.t, what, e, f)
	checkRecords(p.t, what, got, want)
	p.hold(what)
	return e
}

// Flush flushes both.
func (p *pair) Flush() api.Errno {
	p.t.Helper()
	f := p.x.Flush()
	e := p.s.Flush()
	check(p.t, "Flush", e, f)
	p.hold("Flush")
	return e
}

// Merge merges both.
func (p *pair) Merge() (bool, api.Errno) {
	p.t.Helper()
	want, f := p.x.Merge()
	got, e := p.s.Merge()
	check(p.t, "Merge", e, f)
	if got != want {
		p.t.Errorf("Merge: %v, not %v", got, want)
	}
	p.hold("Merge")
	return got, e
}

// Expire lets records be gone in both.
func (p *pair) Expire(mark int64) api.Errno {
	p.t.Helper()
	f := p.x.Expire(mark)
	e := p.s.Expire(mark)
	check(p.t, fmt.Sprintf("Expire(%d)", mark), e, f)
	p.hold(fmt.Sprintf("Expire(%d)", mark))
	return e
}

// both does the same with both disks.
func (p *pair) both(f func(d *disk.Disk)) {
	f(p.d)
	f(p.x.d)
}
