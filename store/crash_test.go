package store_test

import (
	"cmp"
	"fmt"
	"math"
	"math/rand"
	"slices"
	"testing"

	"garner/api"
	"garner/disk"
	"garner/record"
	"garner/store"
)

// Scripts: a store and its model go the same way.

// step is one of the things that a script does to a pair. It answers the pair, or another one.
type step func(p *pair, r *rand.Rand) *pair

// reopen restarts the pair's disk, keeping so much of each file, and opens it.
func reopen(p *pair, keep ...int) *pair {
	p.t.Helper()
	p.d.Restart(keep...)
	q := openPair(p.t, "opened again", p.d)
	if q == nil {
		p.t.Fatalf("no store any more: %s", brief(state(p.d)))
	}
	return q
}

// shortSteps are what short scripts are made of.
func shortSteps() []step {
	return []step{
		func(p *pair, _ *rand.Rand) *pair { p.Append(at(15)); return p },
		func(p *pair, _ *rand.Rand) *pair { p.Append(at(30, -3)); return p },
		func(p *pair, _ *rand.Rand) *pair { p.Flush(); return p },
		func(p *pair, _ *rand.Rand) *pair { p.Merge(); return p },
		func(p *pair, _ *rand.Rand) *pair { p.Expire(10); return p },
		func(p *pair, _ *rand.Rand) *pair { p.Expire(31); return p },
		func(p *pair, _ *rand.Rand) *pair {
			p.both(func(d *disk.Disk) { d.Fill(d.Clone().Append("x", nil) == 0) }) // full, or no longer
			return p
		},
		func(p *pair, _ *rand.Rand) *pair { return reopen(p) },
	}
}

func TestAllShortScripts(t *testing.T) {
	t.Parallel()
	steps := shortSteps()
	bases := []*disk.Disk{disk.New(), three(t), four(t)}
	const length = 4
	for n := range len(steps) * len(steps) * len(steps) * len(steps) {
		for _, d := range bases {
			p := openPair(t, "base", d)
			for k, rest := 0, n; k < length; k, rest = k+1, rest/len(steps) {
				p = steps[rest%len(steps)](p, nil)
			}
			reopen(p)
		}
	}
}

// randomBatch answers some records.
func randomBatch(r *rand.Rand) []api.Record {
	var l []api.Record
	for range 1 + r.Intn(3)*r.Intn(5) {
		x := api.Record{Time: int64(r.Intn(60)) - 10, Seq: r.Uint64(), Line: fmt.Sprint("line ", r.Intn(9))}
		if r.Intn(3) == 0 {
			x.Labels = []api.Label{{Name: "app", Value: fmt.Sprint(r.Intn(3))}}
		}
		l = append(l, x)
	}
	switch r.Intn(20) {
	case 0:
		l[r.Intn(len(l))].Line = "\xff"
	case 1:
		l = nil
	}
	return l
}

// randomKeep answers how much is kept of each file.
func randomKeep(r *rand.Rand) []int {
	var keep []int
	for range 40 {
		keep = append(keep, []int{0, 0, 1, r.Intn(40), r.Intn(400), math.MaxInt, math.MinInt, -1}[r.Intn(8)])
	}
	return keep
}

// longSteps are what long scripts are made of.
func longSteps() []step {
	add := func(p *pair, r *rand.Rand) *pair { p.Append(randomBatch(r)); return p }
	flush := func(p *pair, _ *rand.Rand) *pair { p.Flush(); return p }
	merge := func(p *pair, _ *rand.Rand) *pair { p.Merge(); return p }
	return []step{
		add, add, add, add, add, flush, flush, flush, merge, merge, merge,
		func(p *pair, r *rand.Rand) *pair { p.Expire(p.s.Manifest().Mark + int64(r.Intn(8)) - 2); return p },
		func(p *pair, r *rand.Rand) *pair { p.Expire(int64(r.Intn(40)) - 11); return p },
		func(p *pair, r *rand.Rand) *pair { p.both(func(d *disk.Disk) { d.Fill(true) }); return p },
		func(p *pair, r *rand.Rand) *pair { p.both(func(d *disk.Disk) { d.Fill(false) }); return p },
		func(p *pair, r *rand.Rand) *pair { p.both(func(d *disk.Disk) { d.Fill(false) }); return p },
		func(p *pair, r *rand.Rand) *pair {
			n := r.Intn(30)
			p.both(func(d *disk.Disk) { d.Arm(n) })
			return p
		},
		func(p *pair, r *rand.Rand) *pair { return reopen(p, randomKeep(r)...) },
		func(p *pair, r *rand.Rand) *pair { // down while it is opened
			p.d.Restart(randomKeep(r)...)
			p.d.Append(fmt.Sprint("x", r.Intn(3)), nil)
			for p.d.Arm(r.Intn(3)); openPair(p.t, "opened again", p.d) == nil; p.d.Arm(r.Intn(3)) {
				store.Open(p.d)
				p.d.Restart(randomKeep(r)...)
			}
			p.d.Arm(-1)
			return reopen(p, randomKeep(r)...)
		},
	}
}

func TestLongScripts(t *testing.T) {
	t.Parallel()
	steps := longSteps()
	for seed := range int64(300) {
		r := rand.New(rand.NewSource(seed))
		p := openPair(t, "empty", disk.New())
		for range 80 {
			if p.d.Down() && r.Intn(3) > 0 {
				p = reopen(p, randomKeep(r)...)
			}
			p = steps[r.Intn(len(steps))](p, r)
		}
		reopen(p, randomKeep(r)...)
	}
}

// P17.7: what a crash leaves. Nothing but what was answered is asked here, no model.

// life is a store whose disk goes down now and then, and what must be found again.
type life struct {
	d        *disk.Disk
	s        *store.Store
	accepted []api.Record // whose Append answered OK, in the order of their numbers
	perhaps  []api.Record // the batch with which the disk went down
	marks    []int64      // which Mark the store may have
}

// begin answers the life of a store on a disk without files.
func begin(t *testing.T) *life {
	t.Helper()
	d := disk.New()
	return &life{d: d, s: open(t, d), marks: []int64{math.MinInt64}}
}

// clone answers a life of its own, whose disk is down or is restarted next: its store is another one's.
func (x *life) clone() *life {
	c := *x
	c.d = x.d.Clone()
	c.accepted = slices.Clone(x.accepted)
	c.marks = slices.Clone(x.marks)
	return &c
}

// add appends a batch.
func (x *life) add(t *testing.T, l []api.Record) {
	t.Helper()
	got, e := x.s.Append(l)
	switch e {
	case 0:
		x.accepted = append(x.accepted, got...)
	case api.ErrDown:
		if x.perhaps == nil {
			x.perhaps = numbered(uint64(1+len(x.accepted)), l...)
		}
	default:
		t.Fatalf("Append: %d", e)
	}
}

// expire lets records be gone.
func (x *life) expire(t *testing.T, mark int64) {
	t.Helper()
	e := x.s.Expire(mark)
	if e == 0 && x.marks[0] < mark {
		x.marks = []int64{mark}
	} else if e == api.ErrDown {
		x.marks = append(x.marks, mark)
	} else if e != 0 {
		t.Fatalf("Expire: %d", e)
	}
}

// upOrDown checks that an error is none, or that the disk is down.
func upOrDown(t *testing.T, what string, e api.Errno) {
	t.Helper()
	if e != 0 && e != api.ErrDown {
		t.Fatalf("%s: %d", what, e)
	}
}

// do does one thing of a life.
func (x *life) do(t *testing.T, what byte, n int) {
	t.Helper()
	switch what {
	case 'a':
		x.add(t, at(int64(n)))
	case 'b':
		x.add(t, []api.Record{{Time: int64(-n), Line: "the line"}, {Time: int64(2 * n), Labels: []api.Label{{Name: "n", Value: fmt.Sprint(n)}}}, {Time: 3}})
	case 'f':
		upOrDown(t, "Flush", x.s.Flush())
	case 'm':
		_, e := x.s.Merge()
		upOrDown(t, "Merge", e)
	case 'e':
		x.expire(t, int64(n/2-9))
	}
}

// must answers what the store must have, if it has n records of those that were accepted and the mark.
func (x *life) must(n int, mark int64) []api.Record {
	l := append(slices.Clone(x.accepted), x.perhaps...)[:n]
	l = slices.DeleteFunc(l, func(r api.Record) bool { return r.Time < mark })
	slices.SortFunc(l, record.Compare)
	return l
}

// again opens the restarted disk, and checks what is found.
func (x *life) again(t *testing.T, what string) {
	t.Helper()
	s, e := store.Open(x.d)
	if e != 0 {
		t.Fatalf("%s: Open: %d, of %s", what, e, brief(state(x.d)))
	}
	n, mark := int(s.Next()-1), s.Manifest().Mark
	if n != len(x.accepted) && n != len(x.accepted)+len(x.perhaps) {
		t.Fatalf("%s: Next: %d, behind %d records and perhaps %d", what, s.Next(), len(x.accepted), len(x.perhaps))
	}
	if !slices.Contains(x.marks, mark) {
		t.Fatalf("%s: Mark: %d, not of %d", what, mark, x.marks)
	}
	checkRecords(t, what, s.Records(), x.must(n, mark))
	second, e := store.Open(x.d.Clone()) // and once more it is the same
	if e != 0 || second.Next() != s.Next() || !sameManifest(second.Manifest(), s.Manifest()) {
		t.Fatalf("%s: opened twice: %d", what, e)
	}
	checkRecords(t, what+", opened twice", second.Records(), s.Records())
	x.s, x.accepted, x.perhaps, x.marks = s, append(x.accepted, x.perhaps...)[:n], nil, []int64{mark}
	if t.Failed() {
		t.FailNow()
	}
}

// script is a life with all that a store can do: segments of several tiers, merges, marks between the records of a segment, flushes of nothing that lives.
const script = "abfafbfafmafeabfafmfeafbmfafafmeaafmmafbe"

// run goes a script from the place from on, up to where the disk is down. It answers that place; len(script), if it has come to the end.
func (x *life) run(t *testing.T, from int) int {
	t.Helper()
	for k := from; k < len(script); k++ {
		x.do(t, script[k], k)
		if x.d.Down() {
			return k
		}
	}
	return len(script)
}

// keeps are how much may be kept of what isn't synced.
func keeps() []int {
	l := []int{math.MinInt, math.MaxInt}
	for n := range 70 {
		l = append(l, n)
	}
	return append(l, 100, 200, 300, 400)
}

func TestCrashAtEachChange(t *testing.T) {
	t.Parallel()
	total := 0
	for n := 0; ; n++ {
		x := begin(t)
		x.d.Arm(n)
		k := x.run(t, 0)
		if k == len(script) {
			break
		}
		total++
		for _, keep := range keeps() {
			c := x.clone()
			c.d.Restart(slices.Repeat([]int{keep}, 20)...)
			c.again(t, fmt.Sprintf("down behind %d changes, keeping %d", n, keep))
		}
	}
	if total < 150 {
		t.Errorf("%d changes", total)
	}
}

func TestCrashBehindCrash(t *testing.T) {
	t.Parallel()
	for n := 0; ; n++ {
		x := begin(t)
		x.d.Arm(n)
		k := x.run(t, 0)
		if k == len(script) {
			break
		}
		for _, keep := range []int{0, 9, math.MaxInt} {
			all := slices.Repeat([]int{keep}, 20)
			x.d.Restart(all...)
			for m := range 24 {
				what := fmt.Sprintf("down behind %d changes, keeping %d, and behind %d", n, keep, m)
				c := x.clone()
				c.d.Arm(m)
				if _, e := store.Open(c.d); e == 0 { // it goes down later
					c.d.Arm(-1)
					c.again(t, what)
					c.d.Arm(m)
					c.run(t, k)
				} else {
					check(t, what, e, api.ErrDown)
				}
				c.d.Restart(all...)
				c.again(t, what)
			}
			x = begin(t) // anew, since what was kept is synced now
			x.d.Arm(n)
			x.run(t, 0)
		}
	}
}

func TestLivesOfManyCrashes(t *testing.T) {
	t.Parallel()
	for seed := range int64(400) {
		r := rand.New(rand.NewSource(seed))
		x := begin(t)
		for range 12 {
			x.d.Arm(r.Intn(60))
			for k := 0; !x.d.Down(); k++ {
				x.do(t, "aaabbfffmme"[r.Intn(11)], r.Intn(50))
			}
			x.d.Restart(randomKeep(r)...)
			for r.Intn(2) == 0 { // down while it is opened
				x.d.Arm(r.Intn(4))
				_, e := store.Open(x.d)
				upOrDown(t, "Open", e)
				x.d.Restart(randomKeep(r)...)
			}
			x.again(t, fmt.Sprint("life ", seed))
		}
	}
}

// What is found again has each batch whole or not at all, also where a crash keeps any piece of it.
func TestEachPieceOfABatch(t *testing.T) {
	for _, n := range []int{1, 2, 7, 64} {
		d := disk.New()
		s := open(t, d)
		put(t, s, 8)
		one, _ := d.Read("wal-1")
		d.Arm(1)
		_, e := s.Append(many(n))
		check(t, "Append", e, api.ErrDown)
		kept := map[int]int{} // by how many records are found, how often
		size := len(framed(batch(numbered(2, many(n)...)...)))
		for keep := -1; keep <= size+1; keep++ {
			c := d.Clone()
			c.Restart(keep)
			l := open(t, c).Records()
			slices.SortFunc(l, func(a, b api.Record) int { return cmp.Compare(a.Seq, b.Seq) })
			want := numbered(1, at(8)...)
			if keep >= size {
				want = append(want, numbered(2, many(n)...)...)
			}
			checkRecords(t, fmt.Sprint("keeping ", keep), l, want)
			kept[len(l)]++
		}
		if len(one) == 0 || len(kept) != 2 || kept[1+n] != 2 {
			t.Errorf("%v", kept)
		}
	}
}
