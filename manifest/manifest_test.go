package manifest_test

import (
	"encoding/binary"
	"fmt"
	"hash/crc32"
	"math"
	"math/rand"
	"reflect"
	"slices"
	"strings"
	"sync"
	"testing"

	"garner/api"
	"garner/disk"
	"garner/manifest"
)

const (
	last = 1000000000 // the greatest Wal and Next
	most = 1024       // segments that a manifest has at most
)

// The model: the chapter's words.

// allowed tells whether a manifest may be m.
func allowed(m api.Manifest) bool {
	if m.Wal < 1 || m.Wal > last || m.Next < 1 || m.Next > last || len(m.Segs) > most {
		return false
	}
	for i, s := range m.Segs {
		if s.Id < 1 || s.Id >= m.Next || s.Count < 1 || s.Count > 65536 || s.Min > s.Max {
			return false
		}
		for _, o := range m.Segs[:i] {
			if o.Id == s.Id {
				return false
			}
		}
	}
	return true
}

// zig answers the Zig of n.
func zig(n int64) uint64 {
	if n >= 0 {
		return 2 * uint64(n)
	}
	return 2*uint64(-(n+1)) + 1
}

// zag answers the n of which Zig is u.
func zag(u uint64) int64 {
	if u%2 == 0 {
		return int64(u / 2)
	}
	return -int64(u/2) - 1
}

// numbersOf answers the numbers of a manifest's bytes, may it be or not.
func numbersOf(m api.Manifest) []uint64 {
	l := []uint64{uint64(m.Wal), uint64(m.Next), m.Seq, zig(m.Mark), uint64(len(m.Segs))}
	for _, s := range m.Segs {
		l = append(l, uint64(s.Id), uint64(s.Count), zig(s.Min), zig(s.Max))
	}
	return l
}

// frameOf answers the frame of a payload, be it too long or not.
func frameOf(payload string) string {
	b := append(binary.AppendUvarint(nil, uint64(len(payload))), payload...)
	return string(binary.LittleEndian.AppendUint32(b, crc32.ChecksumIEEE([]byte(payload))))
}

// payloadOf answers numbers in their shortest forms.
func payloadOf(ns ...uint64) string {
	var b []byte
	for _, n := range ns {
		b = binary.AppendUvarint(b, n)
	}
	return string(b)
}

// framed answers the frame of numbers in their shortest forms.
func framed(ns ...uint64) string { return frameOf(payloadOf(ns...)) }

// bytesOf answers a manifest's bytes, may it be or not.
func bytesOf(m api.Manifest) string { return framed(numbersOf(m)...) }

// readModel answers what the chapter's words say of Read. The manifest is read loosely, whatever stands there, since its bytes must then be just b.
func readModel(b string) (api.Manifest, api.Errno) {
	rest := []byte(b)
	next := func() uint64 {
		n, k := binary.Uvarint(rest)
		rest = rest[max(k, 0):]
		return n
	}
	next() // the payload's length
	var m api.Manifest
	m.Wal = int(next())
	m.Next = int(next())
	m.Seq = next()
	m.Mark = zag(next())
	for range min(next(), most+1) {
		var s api.Seg
		s.Id = int(next())
		s.Count = int(next())
		s.Min = zag(next())
		s.Max = zag(next())
		m.Segs = append(m.Segs, s)
	}
	if !allowed(m) || bytesOf(m) != b {
		return api.Manifest{}, api.ErrStore
	}
	return m, 0
}

// saveModel does what the chapter's words say of Save.
func saveModel(d *disk.Disk, m api.Manifest) api.Errno {
	if d == nil {
		return api.ErrNil
	}
	if !allowed(m) {
		return api.ErrArg
	}
	for i, change := range []func() api.Errno{
		func() api.Errno { return d.Delete("manifest.new") },
		func() api.Errno { return d.Append("manifest.new", []byte(bytesOf(m))) },
		func() api.Errno { return d.Sync("manifest.new") },
		func() api.Errno { return d.Rename("manifest.new", "manifest") },
	} {
		if e := change(); e != 0 && !(i == 0 && e == api.ErrNone) {
			return e
		}
	}
	return 0
}

// contents tells what stands in a disk's files.
func contents(d *disk.Disk) string {
	l, e := d.List()
	s := fmt.Sprint(e)
	for _, name := range l {
		b, e := d.Read(name)
		s += fmt.Sprintf(" %s %d %q", name, e, b)
	}
	return s
}

// state tells all of a disk that can be told: how many changes are left, whether it is full, its files, and what of them is synced.
func state(d *disk.Disk) string {
	left := 0
	for c := d.Clone(); !c.Down() && left < 50; left++ {
		c.Sync("none")
	}
	s := fmt.Sprint(left, " ", d.Clone().Append("probe", nil))
	all, synced := d.Clone(), d.Clone()
	synced.Restart()
	all.Restart(slices.Repeat([]int{math.MaxInt}, 100)...)
	return s + " all: " + contents(all) + " synced: " + contents(synced)
}

// Means

// seg answers a segment.
func seg(id, count int, from, to int64) api.Seg {
	return api.Seg{Id: id, Count: count, Min: from, Max: to}
}

// example is the chapter's: Wal 2, Next 3, Seq 9, Mark 5, one segment 1 of 4 records from 10 to 20.
func example() api.Manifest {
	return api.Manifest{Wal: 2, Next: 3, Seq: 9, Mark: 5, Segs: []api.Seg{seg(1, 4, 10, 20)}}
}

// with answers a manifest with these segments, whose Next lets them be.
func with(segs ...api.Seg) api.Manifest {
	return api.Manifest{Wal: 7, Next: last, Seq: 300, Mark: -2, Segs: segs}
}

// but answers the example, changed.
func but(change func(*api.Manifest)) api.Manifest {
	m := example()
	change(&m)
	return m
}

// many answers n segments, the numbers from n to 1, or from 1 to n.
func many(n int, rising bool) []api.Seg {
	var l []api.Seg
	for i := range n {
		l = append(l, seg(n-i, 1+i*63, int64(-i), int64(i*i)))
	}
	if rising {
		slices.Reverse(l)
	}
	return l
}

// longest is the manifest with the most bytes.
func longest() api.Manifest {
	m := api.Manifest{Wal: last, Next: last, Seq: math.MaxUint64, Mark: math.MinInt64}
	for i := range most {
		m.Segs = append(m.Segs, seg(last-1-i, 65536, math.MinInt64, math.MaxInt64))
	}
	return m
}

// good are manifests that may be.
func good() []api.Manifest {
	l := []api.Manifest{
		manifest.First(),
		{Wal: 1, Next: 1}, // what isn't bound at all: Seq 0
		example(),
		{Wal: last, Next: last, Seq: math.MaxUint64, Mark: math.MaxInt64},
		{Wal: last - 1, Next: last - 1, Seq: math.MaxUint64 - 1, Mark: -1, Segs: []api.Seg{}},
		but(func(m *api.Manifest) { m.Next = 2 }), // the segment's number is just below
		but(func(m *api.Manifest) { m.Seq = 0 }),
		but(func(m *api.Manifest) { m.Mark = math.MaxInt64 }), // far behind all that the segment has
		but(func(m *api.Manifest) { m.Segs[0].Count = 1 }),
		but(func(m *api.Manifest) { m.Segs[0].Count = 65536 }),
		with(seg(last-1, 1, 0, 0)),
		with(seg(1, 1, math.MinInt64, math.MinInt64)),
		with(seg(1, 1, math.MaxInt64, math.MaxInt64)),
		with(seg(1, 1, math.MinInt64, math.MaxInt64)),
		with(seg(1, 1, -1, 0), seg(2, 1, -1, 0), seg(3, 1, -1, 0)),        // alike but for the number
		with(seg(3, 1, 5, 9), seg(2, 65536, 0, 7), seg(1, 65536, -9, -9)), // in no order
		with(seg(5, 4, 1, 2), seg(1, 4, 1, 2), seg(last-1, 4, 1, 2), seg(2, 4, 1, 2)),
		with(many(most, true)...),
		with(many(most, false)...),
		with(many(most-1, false)...),
		longest(),
	}
	for k := range 64 { // numbers of all lengths
		l = append(l, api.Manifest{Wal: 1 << (k % 30), Next: last, Seq: 1 << k, Mark: -1 << k, Segs: []api.Seg{seg(1<<(k%30), 1<<(k%17), -1<<k, 1<<(k/2))}})
	}
	return l
}

// badNumbers are no Wal and no Next.
func badNumbers() []int {
	return []int{0, -1, -2, last + 1, last + 2, 1 << 32, 1<<32 + 2, 1<<62 + 2, math.MinInt, math.MinInt + 2, math.MaxInt}
}

// badSegs are segments that a manifest with Next 10 may not have.
func badSegs() []api.Seg {
	var l []api.Seg
	for _, id := range []int{0, -1, 10, 11, last, last + 1, 1<<32 + 1, math.MinInt, math.MinInt + 1, math.MaxInt} {
		l = append(l, seg(id, 4, 10, 20))
	}
	for _, count := range []int{0, -1, 65537, 65538, 1<<32 + 4, math.MinInt, math.MinInt + 4, math.MaxInt} {
		l = append(l, seg(1, count, 10, 20))
	}
	for _, span := range [][2]int64{{10, 9}, {0, -1}, {1, 0}, {-1, -2}, {math.MinInt64 + 1, math.MinInt64}, {math.MaxInt64, math.MaxInt64 - 1}, {math.MaxInt64, math.MinInt64}, {20, 10}} {
		l = append(l, seg(1, 4, span[0], span[1]))
	}
	return l
}

// bad are manifests that may not be.
func bad() []api.Manifest {
	l := []api.Manifest{{}, {Wal: 1}, {Next: 1}, {Seq: 1, Mark: math.MinInt64}}
	for _, n := range badNumbers() {
		l = append(l,
			but(func(m *api.Manifest) { m.Wal = n }),
			api.Manifest{Wal: n, Next: 1, Seq: 1},
			api.Manifest{Wal: 1, Next: n, Seq: 1},
			but(func(m *api.Manifest) { m.Next = n }))
	}
	for _, s := range badSegs() {
		m := with(s)
		m.Next = 10
		l = append(l, m)
		for at := range 4 { // among others
			m.Segs = slices.Insert([]api.Seg{seg(9, 1, 0, 0), seg(2, 1, 0, 0), seg(3, 1, 0, 0)}, at, s)
			l = append(l, m)
		}
	}
	l = append(l,
		api.Manifest{Wal: 1, Next: 1, Seq: 1, Segs: []api.Seg{seg(1, 1, 0, 0)}},
		with(many(most+1, true)...),
		with(many(most+1, false)...),
		with(many(2*most, true)...),
		with(seg(last, 1, 0, 0)),
		with(seg(4, 1, 0, 0), seg(4, 1, 0, 0)),
		with(seg(4, 1, 0, 0), seg(4, 2, 1, 3)), // alike is who has the same number
		with(seg(4, 1, 0, 0), seg(5, 1, 0, 0), seg(4, 2, 1, 3)),
		with(seg(1, 1, 0, 0), seg(2, 1, 0, 0), seg(2, 1, 0, 0), seg(3, 1, 0, 0)))
	for _, pair := range [][2]int{{0, 1}, {0, most - 1}, {most - 2, most - 1}, {3, 700}, {most / 2, most/2 + 1}} {
		for _, rising := range []bool{true, false} {
			segs := many(most, rising)
			segs[pair[0]].Id = segs[pair[1]].Id
			l = append(l, with(segs...))
		}
	}
	return l
}

// same tells whether two manifests are the same.
func same(a, b api.Manifest) bool {
	return a.Wal == b.Wal && a.Next == b.Next && a.Seq == b.Seq && a.Mark == b.Mark && slices.Equal(a.Segs, b.Segs)
}

// brief answers the beginning of what a test tells.
func brief(x any) string {
	s := fmt.Sprint(x)
	if len(s) > 300 {
		return fmt.Sprintf("%s.. (%d bytes)", s[:300], len(s))
	}
	return s
}

// check checks a call's error.
func check(t *testing.T, what string, e, want api.Errno) {
	t.Helper()
	if e != want {
		t.Errorf("%s: %d, not %d", what, e, want)
	}
}

// checkRead checks what Read answers of b.
func checkRead(t *testing.T, b string, want api.Manifest, e api.Errno) {
	t.Helper()
	m, got := manifest.Read([]byte(b))
	if got != e || !same(m, want) {
		t.Errorf("Read(%s): %s, %d, not %s, %d", brief(fmt.Sprintf("% x", b)), brief(m), got, brief(want), e)
	}
}

// checkModel checks Read against the chapter's words.
func checkModel(t *testing.T, b string) {
	t.Helper()
	want, e := readModel(b)
	checkRead(t, b, want, e)
}

// refused checks that b are no manifest's bytes, by Read and by the model.
func refused(t *testing.T, b string) {
	t.Helper()
	checkRead(t, b, api.Manifest{}, api.ErrStore)
	checkModel(t, b)
}

// checkLoad checks what Load answers.
func checkLoad(t *testing.T, what string, d *disk.Disk, want api.Manifest, e api.Errno) {
	t.Helper()
	if m, got := manifest.Load(d); got != e || !same(m, want) {
		t.Errorf("%s: Load: %s, %d, not %s, %d", what, brief(m), got, brief(want), e)
	}
}

// checkSame checks that a disk is as it was.
func checkSame(t *testing.T, what string, d *disk.Disk, was string) {
	t.Helper()
	if s := state(d); s != was {
		t.Errorf("%s: the disk is %s, not %s", what, brief(s), brief(was))
	}
}

// checkContents checks what files there are, and their bytes.
func checkContents(t *testing.T, d *disk.Disk, want ...string) {
	t.Helper()
	if s := contents(files(want...)); contents(d) != s {
		t.Errorf("files: %s, not %s", brief(contents(d)), brief(s))
	}
}

// files answers a disk whose files have those names and bytes, synced.
func files(l ...string) *disk.Disk {
	d := disk.New()
	for i := 0; i < len(l); i += 2 {
		d.Append(l[i], []byte(l[i+1]))
		d.Sync(l[i])
	}
	return d
}

// full answers the disk, full.
func full(d *disk.Disk) *disk.Disk {
	d.Fill(true)
	return d
}

// down answers the disk, down.
func down(d *disk.Disk) *disk.Disk {
	d.Arm(0)
	return d
}

// everyRow calls f with all rows of at most n bytes of those in from.
func everyRow(n int, from string, f func(string)) {
	var grow func(s string)
	grow = func(s string) {
		f(s)
		if len(s) < n {
			for i := range len(from) {
				grow(s + from[i:i+1])
			}
		}
	}
	grow("")
}

// P15.1: First

func TestFirst(t *testing.T) {
	m := manifest.First()
	if m.Wal != 1 || m.Next != 1 || m.Seq != 1 || m.Mark != math.MinInt64 || len(m.Segs) != 0 {
		t.Errorf("First: %v", m)
	}
	if b, e := manifest.Write(m); e != 0 || string(b) != framed(1, 1, 1, math.MaxUint64, 0) {
		t.Errorf("Write(First()): % x, %d", b, e)
	}
}

// P15.1: Write

func TestWriteKnownBytes(t *testing.T) {
	for _, x := range []struct {
		m    api.Manifest
		want string
	}{
		{example(), "\x09\x02\x03\x09\x0a\x01\x01\x04\x14\x28"},
		{manifest.First(), "\x0e\x01\x01\x01\xff\xff\xff\xff\xff\xff\xff\xff\xff\x01\x00"},
		{api.Manifest{Wal: 300, Next: 200, Seq: 0, Mark: -1, Segs: []api.Seg{seg(130, 128, -64, 63), seg(5, 1, -65, 64)}}, "\x13\xac\x02\xc8\x01\x00\x01\x02\x82\x01\x80\x01\x7f\x7e\x05\x01\x81\x01\x80\x01"},
	} {
		b, e := manifest.Write(x.m)
		payload := x.want[1:]
		if want := x.want + string(binary.LittleEndian.AppendUint32(nil, crc32.ChecksumIEEE([]byte(payload)))); e != 0 || string(b) != want {
			t.Errorf("Write(%v): % x, %d, not % x", x.m, b, e, want)
		}
	}
}

func TestWrite(t *testing.T) {
	for i, m := range good() {
		if !allowed(m) {
			t.Fatalf("good row %d: %s", i, brief(m))
		}
		if b, e := manifest.Write(m); e != 0 || string(b) != bytesOf(m) {
			t.Errorf("Write(%s): %s, %d", brief(m), brief(b), e)
		}
	}
	if b, e := manifest.Write(longest()); e != 0 || len(b) != 3+5+5+10+10+2+most*(5+3+10+10)+4 {
		t.Errorf("Write of the longest: %d bytes, %d", len(b), e)
	}
}

func TestWriteOfWhatMayNotBe(t *testing.T) {
	for i, m := range bad() {
		if allowed(m) {
			t.Fatalf("bad row %d: %s", i, brief(m))
		}
		if b, e := manifest.Write(m); e != api.ErrArg || len(b) != 0 {
			t.Errorf("row %d: Write(%s): %s, %d", i, brief(m), brief(b), e)
		}
	}
}

// each calls f with every manifest whose numbers are of chosen ones, about the edges.
func each(f func(api.Manifest)) {
	var segs [][]api.Seg
	ids := []int{-1, 0, 1, 2, 3, 4, last - 1, last}
	for _, a := range ids {
		for _, count := range []int{0, 1, 65536, 65537} {
			for _, to := range []int64{-1, 0, 1} {
				segs = append(segs, []api.Seg{seg(a, count, 0, to)})
			}
		}
		for _, b := range ids {
			segs = append(segs, []api.Seg{seg(a, 1, 0, 0), seg(b, 2, 1, 1)})
			for _, c := range ids {
				segs = append(segs, []api.Seg{seg(a, 1, 0, 0), seg(b, 1, 0, 0), seg(c, 1, 0, 0)})
			}
		}
	}
	segs = append(segs, nil)
	for _, wal := range []int{-1, 0, 1, 3, last, last + 1} {
		for _, next := range []int{-1, 0, 1, 2, 3, 4, last, last + 1} {
			for _, l := range segs {
				f(api.Manifest{Wal: wal, Next: next, Seq: 5, Mark: 6, Segs: l})
			}
		}
	}
}

func TestWriteAndReadByTheWords(t *testing.T) {
	each(func(m api.Manifest) {
		b, e := manifest.Write(m)
		all := bytesOf(m)
		if allowed(m) {
			if e != 0 || string(b) != all {
				t.Fatalf("Write(%v): % x, %d", m, b, e)
			}
			checkRead(t, all, m, 0)
		} else {
			if e != api.ErrArg || len(b) != 0 {
				t.Fatalf("Write(%v): % x, %d", m, b, e)
			}
			checkRead(t, all, api.Manifest{}, api.ErrStore)
		}
	})
}

// P15.1: Read

func TestRead(t *testing.T) {
	for _, m := range good() {
		checkRead(t, bytesOf(m), m, 0)
		checkModel(t, bytesOf(m))
	}
}

// Frames with the right checksum, of manifests that may not be.
func TestReadOfWhatMayNotBe(t *testing.T) {
	for _, m := range bad() {
		refused(t, bytesOf(m))
	}
	for _, n := range []uint64{0, last + 1, 1<<32 + 2, 1 << 63, 1<<63 + 1, 1<<63 + 2, math.MaxUint64, math.MaxUint64 - 1} { // numbers that no int takes, too
		refused(t, framed(n, 3, 9, 10, 1, 1, 4, 20, 40))
		refused(t, framed(2, n, 9, 10, 0))
		refused(t, framed(2, n, 9, 10, 1, 1, 4, 20, 40))
		refused(t, framed(2, 3, 9, 10, 1, n, 4, 20, 40))
		refused(t, framed(2, 3, 9, 10, 1, 1, n, 20, 40))
	}
	checkRead(t, framed(2, 3, 9, 10, 1, 1, 4, 20, 40), example(), 0)
}

// The number of segments says how many there are; it may be so great that its double or fourfold wraps round.
func TestReadOfWrongCounts(t *testing.T) {
	one := []uint64{1, 4, 20, 40}
	for _, n := range []uint64{1, 2, 3, 4, 5, 127, 128, 1024, 1025, 1 << 30, 1 << 31, 1 << 32, 1<<32 + 1, 1 << 60, 1 << 61, 1<<61 + 1, 1 << 62, 1<<62 + 1, 1<<62 + 2, 1 << 63, 1<<63 + 1, 3 << 62, 3<<62 + 1, math.MaxUint64 - 1, math.MaxUint64} {
		refused(t, framed(2, 3, 9, 10, n))
		if n != 1 {
			refused(t, framed(append([]uint64{2, 3, 9, 10, n}, one...)...))
		}
	}
	refused(t, framed(2, 3, 9, 10, 0, 1, 4, 20, 40))
	refused(t, framed(2, 3, 9, 10, 0, 0))
	refused(t, framed(2, 3, 9, 10, 1, 1, 4, 20))
	refused(t, framed(2, 3, 9, 10, 1, 1, 4, 20, 40, 0))
	refused(t, framed(2, 3, 9, 10, 1, 1, 4, 20, 40, 2, 4, 20, 40))
	refused(t, framed(2, 3, 9, 10, 2, 1, 4, 20, 40, 2, 4, 20))
	checkRead(t, framed(2, 3, 9, 10, 2, 1, 4, 20, 40, 2, 4, 20, 40), but(func(m *api.Manifest) { m.Segs = append(m.Segs, seg(2, 4, 10, 20)) }), 0)
}

// Payloads that are cut, or have more behind them, in a frame of their own.
func TestReadOfOtherPayloads(t *testing.T) {
	for _, m := range []api.Manifest{manifest.First(), example(), with(many(3, false)...), {Wal: last, Next: last, Seq: math.MaxUint64, Mark: 1 << 40}} {
		p := payloadOf(numbersOf(m)...)
		for n := range len(p) {
			refused(t, frameOf(p[:n]))
		}
		for c := range 256 {
			refused(t, frameOf(p+string([]byte{byte(c)})))
		}
		refused(t, frameOf(p+p))
	}
	refused(t, frameOf(strings.Repeat("\x01", 65536)))
	refused(t, frameOf(payloadOf(2, 3, 9, 10, 1, 1, 4, 20, 40)+strings.Repeat("\x00", 60000)))
	refused(t, frameOf(strings.Repeat("\x01", 65537))) // no frame
}

// There is one form of a number alone.
func TestReadOfLongerForms(t *testing.T) {
	ns := numbersOf(example())
	for i := range ns {
		ahead, behind := payloadOf(ns[:i]...), payloadOf(ns[i+1:]...)
		longer := []byte(payloadOf(ns[i]))
		longer[len(longer)-1] |= 0x80
		refused(t, frameOf(ahead+string(longer)+"\x00"+behind))
		refused(t, frameOf(ahead+string(longer)+"\x80\x00"+behind))
	}
	p := payloadOf(ns...)
	whole := bytesOf(example())
	refused(t, string([]byte{byte(len(p)) | 0x80, 0})+whole[1:]) // the payload's length
	refused(t, frameOf(strings.Repeat("\xff", 9)+"\x02"+p[1:]))
}

func TestReadOfOtherBytes(t *testing.T) {
	for _, m := range []api.Manifest{manifest.First(), example(), with(many(3, false)...), with(many(40, true)...)} {
		b := bytesOf(m)
		for n := range len(b) { // each shorter beginning
			refused(t, b[:n])
			refused(t, b[n+1:])
		}
		for c := range 256 { // one more
			refused(t, b+string([]byte{byte(c)}))
			refused(t, string([]byte{byte(c)})+b)
		}
		refused(t, b+b)
		refused(t, b+frameOf(""))
		for i := range len(b) {
			for bit := range 8 { // each bit turned
				x := []byte(b)
				x[i] ^= 1 << bit
				refused(t, string(x))
			}
		}
	}
	refused(t, "")
	checkRead(t, "", api.Manifest{}, api.ErrStore)
	if m, e := manifest.Read(nil); e != api.ErrStore || !reflect.DeepEqual(m, api.Manifest{}) {
		t.Errorf("Read(nil): %v, %d", m, e)
	}
	for _, b := range []string{"\x00", "\x80", "\x00\x00\x00\x00\x00", "manifest", strings.Repeat("\x00", 100), strings.Repeat("\xff", 100), "\x81\x80\x04" + strings.Repeat("\x01", 65541)} {
		refused(t, b)
	}
}

// What stands behind the bytes' end is not read.
func TestReadReadsNoSpareRoom(t *testing.T) {
	b := []byte(bytesOf(example()))
	for n := range b {
		if m, e := manifest.Read(b[:n]); e != api.ErrStore || !reflect.DeepEqual(m, api.Manifest{}) {
			t.Errorf("Read of %d of %d bytes: %v, %d", n, len(b), m, e)
		}
	}
	b = append(b, "more"...)
	if m, e := manifest.Read(b[:len(b)-4]); e != 0 || !same(m, example()) {
		t.Errorf("Read: %v, %d", m, e)
	}
}

func TestReadOfAllShortPayloads(t *testing.T) {
	everyRow(9, "\x00\x01\x02", func(p string) { checkModel(t, frameOf(p)) })
	everyRow(6, "\x00\x01\x02\x03\x7f\x80", func(p string) { checkModel(t, frameOf(p)) })
	everyRow(6, "\x00\x01\x02\x80\xff", func(b string) { checkModel(t, b) })
	everyRow(5, "\x01\x02\x03\x04", func(p string) {
		checkModel(t, frameOf("\x02\x03\x09\x0a"+p))
		checkModel(t, frameOf("\x05\x05\x01\x00\x02\x02\x01\x05\x05"+p))
	})
}

// edited answers bytes with some changes by chance.
func edited(r *rand.Rand, s string) string {
	b := []byte(s)
	for range 1 + r.Intn(3) {
		at := r.Intn(len(b) + 1)
		c := []byte{0, 1, 2, 4, 0x7f, 0x80, 0xff, byte(r.Intn(256))}[r.Intn(8)]
		switch {
		case at == len(b) || r.Intn(4) == 0:
			b = slices.Insert(b, at, c)
		case r.Intn(4) == 0:
			b = slices.Delete(b, at, at+1)
		default:
			b[at] = c
		}
	}
	return string(b)
}

// chance answers a manifest by chance that may be, or nearly so.
func chance(r *rand.Rand) api.Manifest {
	m := api.Manifest{Wal: 1 + r.Intn(last), Next: 1 + r.Intn(12), Seq: r.Uint64() >> r.Intn(64), Mark: int64(r.Uint64()) >> r.Intn(64)}
	for range r.Intn(5) {
		from := int64(r.Uint64()) >> r.Intn(64)
		m.Segs = append(m.Segs, seg(1+r.Intn(12), 1+r.Intn(65536)>>r.Intn(16), from, max(from, from+int64(r.Intn(1000)-20))))
	}
	return m
}

func TestReadOfEdits(t *testing.T) {
	r := rand.New(rand.NewSource(15))
	fine := 0
	for range 40000 {
		m := chance(r)
		b, e := manifest.Write(m)
		if want := allowed(m); (e == 0) != want || want && string(b) != bytesOf(m) {
			t.Fatalf("Write(%v): % x, %d", m, b, e)
		}
		checkModel(t, bytesOf(m))
		checkModel(t, edited(r, bytesOf(m)))
		p := frameOf(edited(r, payloadOf(numbersOf(m)...)))
		if _, e := readModel(p); e == 0 {
			fine++
		}
		checkModel(t, p)
	}
	if fine < 1000 {
		t.Errorf("only %d edits left a manifest", fine)
	}
}

// P15.2

func TestLoadOfNil(t *testing.T) {
	if m, e := manifest.Load(nil); e != api.ErrNil || !reflect.DeepEqual(m, api.Manifest{}) {
		t.Errorf("Load(nil): %v, %d", m, e)
	}
}

func TestLoadOfNoFile(t *testing.T) {
	b := bytesOf(example())
	for i, d := range []*disk.Disk{
		disk.New(),
		full(disk.New()),
		files("manifest.new", b), // it has not become the manifest
		files("manifest.new", "", "manifest.", b, "manifest-1", b, "a.manifest", b, "anifest", b, "manifes", b, "wal-1", b, "seg-1", b),
	} {
		checkLoad(t, fmt.Sprint("disk ", i), d, manifest.First(), 0)
	}
	d := files("manifest", b)
	d.Delete("manifest")
	checkLoad(t, "deleted", d, manifest.First(), 0)
}

func TestLoad(t *testing.T) {
	for _, m := range good() {
		d := files("manifest", bytesOf(m), "manifest.new", bytesOf(but(func(m *api.Manifest) { m.Seq = 7 })), "x", "y")
		checkLoad(t, "synced", d, m, 0)
		checkLoad(t, "full", full(d), m, 0)
		d = disk.New()
		d.Append("manifest", []byte(bytesOf(m)))
		checkLoad(t, "not synced", d, m, 0)
	}
}

func TestLoadOfADiskThatIsDown(t *testing.T) {
	for i, d := range []*disk.Disk{disk.New(), files("manifest", bytesOf(example())), files("manifest", ""), files("manifest", "noise"), full(disk.New())} {
		d.Arm(0)
		if m, e := manifest.Load(d); e != api.ErrDown || !reflect.DeepEqual(m, api.Manifest{}) {
			t.Errorf("disk %d: Load: %v, %d", i, m, e)
		}
	}
}

func TestLoadOfNoManifest(t *testing.T) {
	b := bytesOf(example())
	l := []string{"", "\x00", "noise", b[:len(b)-1], b + "\x00", b + b, b[1:], "\x08" + b[1:], frameOf(""), bytesOf(api.Manifest{}), strings.Repeat("x", 200000)}
	for _, m := range bad() {
		l = append(l, bytesOf(m))
	}
	for i, b := range l {
		d := files("manifest", b, "manifest.new", bytesOf(example()))
		was := state(d)
		checkLoad(t, fmt.Sprint("file ", i), d, api.Manifest{}, api.ErrStore)
		checkLoad(t, fmt.Sprint("file ", i, " full"), full(d.Clone()), api.Manifest{}, api.ErrStore)
		checkSame(t, fmt.Sprint("file ", i), d, was)
	}
}

// Load changes nothing: it isn't even one of the changes that a disk does until it is down.
func TestLoadChangesNothing(t *testing.T) {
	for _, b := range []string{"", "noise", bytesOf(example())} {
		for _, n := range []int{-1, 1, 3} {
			d := files("manifest", b, "manifest.new", "left")
			d.Append("manifest", nil)
			d.Append("manifest.new", []byte("more"))
			d.Arm(n)
			was := state(d)
			for range 5 {
				manifest.Load(d)
			}
			checkSame(t, "Load", d, was)
		}
	}
}

// P15.3

// disks are those on which a Save may begin.
func disks() []*disk.Disk {
	old := bytesOf(manifest.First())
	left := files("manifest", old, "other", "x")
	left.Append("manifest.new", []byte("left over"))
	part := files("manifest", old, "manifest.new", "left over")
	part.Append("manifest.new", []byte(" and more"))
	part.Append("manifest", []byte("more"))
	return []*disk.Disk{
		disk.New(),
		files("manifest", old),
		files("manifest.new", bytesOf(example())),
		files("manifest", old, "manifest.new", bytesOf(example())),
		files("manifest", "", "manifest.new", ""),
		files("manifest", "noise", "wal-1", "w", "seg-1", "s", "x", ""),
		left,
		part,
		full(disk.New()),
		full(files("manifest", old, "manifest.new", "left over")),
		full(left.Clone()),
		down(disk.New()),
		down(files("manifest", old, "manifest.new", "left over")),
	}
}

func TestSave(t *testing.T) {
	for _, m := range good() {
		for i, d := range disks() {
			model := d.Clone()
			e, want := manifest.Save(d, m), saveModel(model, m)
			if e != want {
				t.Errorf("disk %d: Save(%s): %d, not %d", i, brief(m), e, want)
			}
			checkSame(t, fmt.Sprintf("disk %d: Save(%s)", i, brief(m)), d, state(model))
			if e == 0 {
				checkLoad(t, "behind Save", d, m, 0)
				d.Restart()
				checkLoad(t, "behind Save and a crash", d, m, 0)
			}
		}
	}
}

// The changes, one by one: behind each the disk may go down.
func TestSaveStepByStep(t *testing.T) {
	b := bytesOf(example())
	for _, m := range []api.Manifest{example(), manifest.First(), longest()} {
		for i := range disks() {
			for n := -1; n <= 6; n++ {
				d := disks()[i]
				d.Arm(n)
				model := d.Clone()
				e, want := manifest.Save(d, m), saveModel(model, m)
				if e != want {
					t.Errorf("disk %d, %d changes: Save: %d, not %d", i, n, e, want)
				}
				checkSame(t, fmt.Sprintf("disk %d, %d changes: Save", i, n), d, state(model))
			}
		}
	}
	for n, want := range [][]string{
		{"manifest", "old", "manifest.new", "left"},
		{"manifest", "old"},
		{"manifest", "old", "manifest.new", ""}, // not synced yet
		{"manifest", "old", "manifest.new", b},
		{"manifest", b},
		{"manifest", b},
	} {
		d := files("manifest", "old", "manifest.new", "left")
		d.Arm(n)
		e := api.Errno(0)
		if n < 4 {
			e = api.ErrDown
		}
		check(t, fmt.Sprint("Save with ", n, " changes"), manifest.Save(d, example()), e)
		if d.Down() != (n < 5) {
			t.Errorf("Save with %d changes: down: %t", n, d.Down())
		}
		d.Restart()
		checkContents(t, d, want...)
	}
}

// It is four changes, be there a file to be deleted or not.
func TestSaveIsFourChanges(t *testing.T) {
	for _, d := range []*disk.Disk{disk.New(), files("manifest.new", "left"), files("manifest", bytesOf(example()))} {
		d.Arm(13)
		for i := range 3 {
			check(t, "Save", manifest.Save(d, example()), 0)
			if d.Down() {
				t.Errorf("down behind %d Saves", i+1)
			}
		}
		check(t, "Append", d.Append("x", nil), 0)
		if !d.Down() {
			t.Error("up behind thirteen changes")
		}
	}
}

// On a full disk what was left of another Save is gone, and nothing is tried behind the Append.
func TestSaveOnAFullDisk(t *testing.T) {
	old := bytesOf(manifest.First())
	d := full(files("manifest", old, "manifest.new", "left", "x", "y"))
	d.Arm(9)
	check(t, "Save", manifest.Save(d, example()), api.ErrFull)
	checkContents(t, d, "manifest", old, "x", "y")
	checkLoad(t, "full", d, manifest.First(), 0)
	check(t, "Save", manifest.Save(d, example()), api.ErrFull)
	for range 5 {
		if d.Down() {
			t.Error("down too early")
		}
		d.Sync("x")
	}
	if !d.Down() {
		t.Error("up behind nine changes")
	}
	d.Restart()
	check(t, "Save", manifest.Save(d, example()), 0)
	checkContents(t, d, "manifest", bytesOf(example()), "x", "y")
}

func TestSaveOfNil(t *testing.T) {
	for _, m := range append(bad(), good()...) { // ahead of ErrArg
		check(t, "Save(nil, ..)", manifest.Save(nil, m), api.ErrNil)
	}
}

func TestSaveOfWhatMayNotBe(t *testing.T) {
	l := disks()
	for n := range 6 {
		d := disks()[3]
		d.Arm(n)
		l = append(l, d)
	}
	for i, d := range l { // ahead of the disk's errors, and no change
		was := state(d)
		for _, m := range bad() {
			check(t, fmt.Sprint("disk ", i, ": Save"), manifest.Save(d, m), api.ErrArg)
		}
		checkSame(t, fmt.Sprint("disk ", i, ": Save"), d, was)
	}
}

func TestSaveAgainAndAgain(t *testing.T) {
	d := files("other", "x")
	for range 3 {
		for _, m := range good() {
			check(t, "Save", manifest.Save(d, m), 0)
			checkContents(t, d, "manifest", bytesOf(m), "other", "x")
			checkLoad(t, "Save", d, m, 0)
		}
	}
}

// P15.4

// keeps calls f with what may be kept of each of so many files, each of at most so many bytes.
func keeps(nfiles, most int, f func(keep []int)) {
	var grow func(keep []int)
	grow = func(keep []int) {
		if len(keep) == nfiles {
			f(keep)
			return
		}
		for _, n := range []int{-1, 0, 1, 2, most / 2, most - 1, most, math.MaxInt} {
			grow(append(slices.Clone(keep), n))
		}
	}
	grow(nil)
}

// begun answers disks on which Saves have been, up to one that went wrong, and what Load answers of them; none of them is down.
func begun() map[string]*disk.Disk {
	old := with(many(3, false)...)
	l := map[string]*disk.Disk{"none": disk.New()}
	for n := range 4 { // the first Save went wrong
		d := disk.New()
		d.Arm(n)
		manifest.Save(d, old)
		d.Restart(3)
		l[fmt.Sprint("first ", n)] = d
	}
	d := disk.New()
	manifest.Save(d, old)
	l["saved"] = d
	for n := range 4 { // the second one
		d := d.Clone()
		d.Arm(n)
		manifest.Save(d, manifest.First())
		d.Restart(0, 5)
		l[fmt.Sprint("second ", n)] = d
	}
	l["wrong"] = files("manifest", "noise")
	return l
}

func TestCrashes(t *testing.T) {
	for what, from := range begun() {
		was, e := manifest.Load(from)
		for _, m := range []api.Manifest{example(), with(many(9, true)...), manifest.First()} {
			for n := range 5 {
				keeps(2, len(bytesOf(m)), func(keep []int) {
					d := from.Clone()
					d.Arm(n)
					wrong := manifest.Save(d, m)
					if want := []api.Errno{api.ErrDown, 0}[n/4]; wrong != want || !d.Down() {
						t.Fatalf("%s, %d changes: Save: %d, down: %t", what, n, wrong, d.Down())
					}
					d.Restart(keep...)
					told := fmt.Sprintf("%s, %d changes, %d kept", what, n, keep)
					if n == 4 {
						checkLoad(t, told, d, m, 0)
					} else {
						checkLoad(t, told, d, was, e)
					}
					check(t, "Save behind a crash", manifest.Save(d, example()), 0) // what was left is no hindrance
					checkLoad(t, told, d, example(), 0)
					checkContents(t, d, "manifest", bytesOf(example()))
				})
			}
		}
	}
}

func TestCrashBehindAFullDisk(t *testing.T) {
	for what, from := range begun() {
		was, e := manifest.Load(from)
		keeps(2, 30, func(keep []int) {
			d := full(from.Clone())
			check(t, "Save", manifest.Save(d, example()), api.ErrFull)
			checkLoad(t, what, d, was, e)
			d.Restart(keep...)
			checkLoad(t, what, d, was, e)
		})
	}
}

// Many Saves by chance, with crashes and full disks between them: Load answers the last one that went well.
func TestLongScripts(t *testing.T) {
	r := rand.New(rand.NewSource(4))
	for range 300 {
		d := disk.New()
		now := manifest.First()
		for step := range 60 {
			switch r.Intn(6) {
			case 0:
				d.Arm(r.Intn(9) - 1)
			case 1:
				d.Fill(r.Intn(2) == 0)
			case 2:
				d.Restart(r.Intn(60)-2, r.Intn(60)-2, r.Intn(3))
			case 3:
				d.Append("wal-1", []byte("x"))
			default:
				m := chance(r)
				model := d.Clone()
				e, want := manifest.Save(d, m), saveModel(model, m)
				if e != want || state(d) != state(model) {
					t.Fatalf("step %d: Save(%v): %d, not %d; %s, not %s", step, m, e, want, brief(state(d)), brief(state(model)))
				}
				if e == 0 {
					now = m
				}
			}
			if d.Down() {
				checkLoad(t, "down", d, api.Manifest{}, api.ErrDown)
				c := d.Clone()
				c.Restart(r.Intn(60), r.Intn(60))
				checkLoad(t, "behind a crash", c, now, 0)
			} else {
				checkLoad(t, fmt.Sprint("step ", step), d, now, 0)
			}
		}
	}
}

// P15.5

// roomy answers the manifest with spare room in its list, and that list, room and all.
func roomy(m api.Manifest) (api.Manifest, []api.Seg) {
	room := append(slices.Clone(m.Segs), many(5, true)...)
	m.Segs = room[:len(m.Segs)]
	return m, room
}

func TestHandedInStays(t *testing.T) {
	for _, x := range append(good(), bad()...) {
		m, room := roomy(x)
		was := slices.Clone(room)
		d := disk.New()
		manifest.Write(m)
		manifest.Save(d, m)
		manifest.Save(down(disk.New()), m)
		manifest.Save(nil, m)
		if !same(m, x) || !slices.Equal(room, was) {
			t.Errorf("%s was changed to %s, with %s", brief(x), brief(m), brief(room))
		}
		saved := contents(d)
		clear(room) // and isn't kept
		if contents(d) != saved {
			t.Errorf("the disk keeps %s", brief(x))
		}
		b := []byte(bytesOf(x) + "spare room")
		manifest.Read(b[:len(b)-10])
		manifest.Read(b)
		if string(b) != bytesOf(x)+"spare room" {
			t.Errorf("Read changed its bytes: %s", brief(b))
		}
	}
	b := []byte(bytesOf(example()))
	m, _ := manifest.Read(b)
	clear(b)
	if !same(m, example()) {
		t.Errorf("Read's answer hangs on its bytes: %v", m)
	}
}

// spoil writes over all of a list of segments, its spare room too.
func spoil(l []api.Seg) {
	l = l[:cap(l)]
	for i := range l {
		l[i] = seg(-1, -1, -1, -1)
	}
}

func TestAnsweredIsNew(t *testing.T) {
	for _, x := range good() {
		m, room := roomy(x)
		was := slices.Clone(room)
		d := disk.New()
		manifest.Save(d, m)
		saved := state(d)
		in := []byte(bytesOf(x) + "spare room")
		in = in[:len(in)-10]
		var bs [][]byte
		var ms []api.Manifest
		for range 2 {
			b, _ := manifest.Write(m)
			bs = append(bs, b)
			r, _ := manifest.Read(in)
			l, _ := manifest.Load(d)
			ms = append(ms, r, l, manifest.First())
		}
		for i, b := range bs {
			if string(b) != bytesOf(x) {
				t.Fatalf("bytes %d of %s were changed through others", i, brief(x))
			}
			for k := range b[:cap(b)] {
				b[:cap(b)][k] ^= 0xff
			}
		}
		for i, a := range ms {
			want := x
			if i%3 == 2 {
				want = manifest.First()
			}
			if !same(a, want) {
				t.Fatalf("answer %d of %s was changed through another one: %s", i, brief(x), brief(a))
			}
			spoil(a.Segs)
		}
		if !same(m, x) || !slices.Equal(room, was) || string(in) != bytesOf(x) || string(in[:cap(in)][len(in):][:10]) != "spare room" {
			t.Errorf("what was handed in was changed through an answer of %s", brief(x))
		}
		checkSame(t, "what is answered", d, saved)
		checkLoad(t, "again", d, x, 0)
	}
}

// Calls on disks of their own have nothing to do with one another.
func TestManyAtOnce(t *testing.T) {
	m := with(many(20, false)...)
	b := []byte(bytesOf(m))
	shared := files("manifest", string(b))
	var all sync.WaitGroup
	for range 8 {
		all.Add(1)
		go func() {
			defer all.Done()
			d := disk.New()
			for range 50 {
				check(t, "Save", manifest.Save(d, m), 0)
				checkLoad(t, "its own", d, m, 0)
				checkLoad(t, "one for all", shared, m, 0)
				if r, e := manifest.Read(b); e != 0 || !same(r, m) {
					t.Errorf("Read: %v, %d", r, e)
				}
			}
		}()
	}
	all.Wait()
}

// The chapter's examples

func TestExamples(t *testing.T) {
	d := disk.New()
	checkLoad(t, "an empty disk", d, manifest.First(), 0)
	d.Arm(4)
	check(t, "Save", manifest.Save(d, example()), 0)
	if !d.Down() {
		t.Error("less than four changes")
	}
	d.Restart()
	checkLoad(t, "behind Save", d, example(), 0)
	if b, e := manifest.Write(api.Manifest{Wal: 1, Next: 1, Seq: 1, Segs: []api.Seg{seg(1, 1, 0, 0)}}); e != api.ErrArg || len(b) != 0 {
		t.Errorf("Write: % x, %d", b, e)
	}
	checkLoad(t, "a file without bytes", files("manifest", ""), api.Manifest{}, api.ErrStore)
}
