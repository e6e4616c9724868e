package wal_test

import (
	"encoding/binary"
	"fmt"
	"hash/crc32"
	"math"
	"math/rand"
	"slices"
	"strings"
	"sync"
	"testing"

	"garner/api"
	"garner/disk"
	"garner/wal"
)

const last = 1000000000 // the greatest number of a file

// The model: the chapter's words.

// frameOf answers the frame of a payload, be it too long or not.
func frameOf(payload string) string {
	b := append(binary.AppendUvarint(nil, uint64(len(payload))), payload...)
	return string(binary.LittleEndian.AppendUint32(b, crc32.ChecksumIEEE([]byte(payload))))
}

// heldIn answers what a file of those bytes holds.
func heldIn(file string) []string {
	var l []string
	for {
		n, k := binary.Uvarint([]byte(file))
		if k <= 0 || n > 65536 || len(file) < k+int(n)+4 || !strings.HasPrefix(file, frameOf(file[k:k+int(n)])) {
			return l
		}
		l = append(l, file[k:k+int(n)])
		file = file[k+int(n)+4:]
	}
}

// model is a log by the chapter's words.
type model struct {
	d             *disk.Disk
	first, number int
	since         int // how often something was appended to the file since it has that number
	gone          map[int]bool
}

// openModel answers what the chapter's words say of Open.
func openModel(d *disk.Disk, first int) (*model, []string, api.Errno) {
	switch {
	case d == nil:
		return nil, nil, api.ErrNil
	case first < 1 || first > last:
		return nil, nil, api.ErrArg
	}
	names, e := d.List()
	if e != 0 {
		return nil, nil, e
	}
	m := &model{d: d, first: first, number: first, gone: map[int]bool{}}
	var l []string
	for slices.Contains(names, fmt.Sprintf("wal-%d", m.number)) {
		b, _ := d.Read(fmt.Sprintf("wal-%d", m.number))
		l = append(l, heldIn(string(b))...)
		m.number++
	}
	if m.number > last {
		return nil, nil, api.ErrMany
	}
	return m, l, 0
}

// file answers the name of the file with the model's number.
func (m *model) file() string { return fmt.Sprintf("wal-%d", m.number) }

func (m *model) append(payload string) api.Errno {
	if len(payload) > 65536 {
		return api.ErrLong
	}
	e := m.d.Append(m.file(), []byte(frameOf(payload)))
	if e == 0 {
		m.since++
	}
	return e
}

func (m *model) sync() api.Errno {
	if m.since == 0 {
		return 0
	}
	return m.d.Sync(m.file())
}

func (m *model) rotate() api.Errno {
	switch {
	case m.number == last:
		return api.ErrMany
	case m.since > 0:
		m.number, m.since = m.number+1, 0
	}
	return 0
}

func (m *model) drop(below int) api.Errno {
	for n := m.first; n < m.number; n++ {
		if n >= below || m.gone[n] {
			continue
		}
		e := m.d.Delete(fmt.Sprintf("wal-%d", n))
		if e != 0 && e != api.ErrNone {
			return e
		}
		m.gone[n] = true
	}
	return 0
}

// contents tells what stands in a disk's files.
func contents(d *disk.Disk) string {
	l, e := d.List()
	s := fmt.Sprint(e)
	for _, name := range l {
		b, e := d.Read(name)
		s += fmt.Sprintf(" %s %d %q", name, e, b)
	}
	return s
}

// state tells all of a disk that can be told: how many changes are left, whether it is full, its files, and what of them is synced.
func state(d *disk.Disk) string {
	left := 0
	for c := d.Clone(); !c.Down() && left < 50; left++ {
		c.Sync("none")
	}
	s := fmt.Sprint(left, " ", d.Clone().Append("probe", nil))
	all, synced := d.Clone(), d.Clone()
	synced.Restart()
	all.Restart(slices.Repeat([]int{math.MaxInt}, 100)...)
	return s + " all: " + contents(all) + " synced: " + contents(synced)
}

// Means

// with answers a disk whose files have those names and bytes, synced.
func with(l ...string) *disk.Disk {
	d := disk.New()
	for i := 0; i < len(l); i += 2 {
		d.Append(l[i], []byte(l[i+1]))
		d.Sync(l[i])
	}
	return d
}

// texts answers payloads as texts.
func texts(l [][]byte) []string {
	var s []string
	for _, p := range l {
		s = append(s, string(p))
	}
	return s
}

// brief answers the beginning of a text, for what a test tells.
func brief(s string) string {
	if len(s) > 300 {
		return fmt.Sprintf("%s.. (%d bytes)", s[:300], len(s))
	}
	return s
}

// open opens a log and checks what it is and holds.
func open(t *testing.T, d *disk.Disk, first, number int, want ...string) *wal.Log {
	t.Helper()
	l, held, e := wal.Open(d, first)
	if e != 0 || l == nil {
		t.Fatalf("Open(%d): %d", first, e)
	}
	if l.Number() != number || !slices.Equal(texts(held), want) {
		t.Errorf("Open(%d): %d, %s, not %d, %s", first, l.Number(), brief(fmt.Sprintf("%q", held)), number, brief(fmt.Sprintf("%q", want)))
	}
	return l
}

// refused checks that Open answers an error, and nothing beside it.
func refused(t *testing.T, d *disk.Disk, first int, want api.Errno) {
	t.Helper()
	if l, held, e := wal.Open(d, first); l != nil || len(held) != 0 || e != want {
		t.Errorf("Open(%d): %v, %q, %d, not %d", first, l, held, e, want)
	}
}

// check checks a call's error.
func check(t *testing.T, what string, e, want api.Errno) {
	t.Helper()
	if e != want {
		t.Errorf("%s: %d, not %d", what, e, want)
	}
}

// appended appends payloads, which goes well.
func appended(t *testing.T, l *wal.Log, payloads ...string) {
	t.Helper()
	for _, p := range payloads {
		check(t, "Append", l.Append([]byte(p)), 0)
	}
}

// checkNames checks what files there are.
func checkNames(t *testing.T, d *disk.Disk, want ...string) {
	t.Helper()
	if l, e := d.List(); e != 0 || !slices.Equal(l, want) {
		t.Errorf("files: %q, %d, not %q", l, e, want)
	}
}

// checkFile checks what stands in a file: the frames of these payloads.
func checkFile(t *testing.T, d *disk.Disk, name string, want ...string) {
	t.Helper()
	s := ""
	for _, p := range want {
		s += frameOf(p)
	}
	if b, e := d.Read(name); e != 0 || string(b) != s {
		t.Errorf("%s: %s, %d, not %s", name, brief(fmt.Sprintf("%q", b)), e, brief(fmt.Sprintf("%q", s)))
	}
}

// checkSame checks that a disk is as it was.
func checkSame(t *testing.T, what string, d *disk.Disk, was string) {
	t.Helper()
	if s := state(d); s != was {
		t.Errorf("%s: the disk is %s, not %s", what, brief(s), brief(was))
	}
}

// P10.1

func TestName(t *testing.T) {
	for n, want := range map[int]string{
		1: "wal-1", 7: "wal-7", 9: "wal-9", 10: "wal-10", 11: "wal-11", 100: "wal-100", 1020: "wal-1020", 99999: "wal-99999", 4294967: "wal-4294967",
		last - 1: "wal-999999999", last: "wal-1000000000",
		0: "", -1: "", -7: "", last + 1: "", 10 * last: "", 1 << 32: "", 1<<32 + 1: "", math.MinInt: "", math.MinInt + 1: "", math.MaxInt: "",
	} {
		if s := wal.Name(n); s != want {
			t.Errorf("Name(%d): %q, not %q", n, s, want)
		}
	}
	for n := 1; n < last; n += 1 + n/7 {
		if s := wal.Name(n); s != fmt.Sprintf("wal-%d", n) {
			t.Errorf("Name(%d): %q", n, s)
		}
	}
}

// no are numbers that no file has.
func no() []int {
	return []int{0, -1, -2, last + 1, last + 2, 1<<32 + 1, math.MinInt, math.MaxInt}
}

func TestOpenOfNilIsErrNil(t *testing.T) {
	for _, first := range append(no(), 1, 2, last) { // ahead of ErrArg
		refused(t, nil, first, api.ErrNil)
	}
}

func TestOpenOfNoNumberIsErrArg(t *testing.T) {
	down, full := with("wal-1", frameOf("a")), with("wal-1", frameOf("a"))
	down.Arm(0)
	full.Fill(true)
	for _, d := range []*disk.Disk{disk.New(), with("wal-1", frameOf("a"), "wal-0", frameOf("b")), down, full} { // ahead of ErrDown
		for _, first := range no() {
			refused(t, d, first, api.ErrArg)
		}
	}
}

func TestOpenOfADiskThatIsDown(t *testing.T) {
	d := with("wal-1", frameOf("a"), "wal-2", frameOf("b"), "wal-1000000000", frameOf("c"))
	d.Arm(0)
	for _, first := range []int{1, 2, 3, 17, last - 1, last} { // ahead of ErrMany
		refused(t, d, first, api.ErrDown)
	}
	d.Restart()
	open(t, d, 1, 3, "a", "b")
}

func TestOpenUpToTheLastNumber(t *testing.T) {
	d := with("wal-1000000000", frameOf("c"))
	refused(t, d, last, api.ErrMany)
	open(t, d, last-1, last-1)
	d = with("wal-999999998", frameOf("a"), "wal-999999999", "", "wal-1000000000", "noise", "wal-1000000001", frameOf("d"))
	for _, first := range []int{last - 2, last - 1, last} {
		refused(t, d, first, api.ErrMany)
	}
	open(t, d, last-3, last-3)
	if e := d.Delete("wal-1000000000"); e != 0 {
		t.Fatal(e)
	}
	open(t, d, last-2, last, "a")
	open(t, d, last-1, last)
	open(t, d, last, last)
	open(t, disk.New(), last, last)
	d.Append("wal-1000000000", nil) // and with a gap
	d.Delete("wal-999999999")
	open(t, d, last-2, last-1, "a")
	refused(t, d, last, api.ErrMany)
}

func TestOpenReadsTheFilesThatFollow(t *testing.T) {
	a, b, c := frameOf("a"), frameOf("b")+frameOf("")+frameOf("bb"), frameOf("c")
	for _, x := range []struct {
		files         []string
		first, number int
		want          []string
	}{
		{nil, 1, 1, nil},
		{nil, 5, 5, nil},
		{[]string{"wal-1", a}, 1, 2, []string{"a"}},
		{[]string{"wal-1", a}, 2, 2, nil},
		{[]string{"wal-1", a, "wal-2", b, "wal-3", c}, 1, 4, []string{"a", "b", "", "bb", "c"}},
		{[]string{"wal-1", a, "wal-2", b, "wal-3", c}, 2, 4, []string{"b", "", "bb", "c"}},
		{[]string{"wal-1", a, "wal-2", b, "wal-3", c}, 3, 4, []string{"c"}},
		{[]string{"wal-1", a, "wal-2", b, "wal-3", c}, 4, 4, nil},
		{[]string{"wal-2", b}, 1, 1, nil},                                                                     // not the first
		{[]string{"wal-1", a, "wal-3", c}, 1, 2, []string{"a"}},                                               // a gap
		{[]string{"wal-1", a, "wal-3", c}, 2, 2, nil},                                                         //
		{[]string{"wal-1", "", "wal-2", "", "wal-3", c}, 1, 4, []string{"c"}},                                 // without anything
		{[]string{"wal-8", "8", "wal-9", frameOf("9"), "wal-10", frameOf("10")}, 8, 11, []string{"9", "10"}},  // numbers, not texts
		{[]string{"wal-01", a, "wal-0", a, "wal", a, "wal-", a, "wal--1", a, "wal-1.", a, "1", a}, 1, 1, nil}, // other names
		{[]string{"wal-9", a, "wal-1", b, "wal-010", c, "wal-90", c}, 9, 10, []string{"a"}},
	} {
		d := with(x.files...)
		was := state(d)
		open(t, d, x.first, x.number, x.want...)
		checkSame(t, "Open", d, was)
	}
}

// A file ends where it has no frame; the next one is read whatever stood ahead.
func TestOpenReadsUpToTheFirstFault(t *testing.T) {
	good := frameOf("one") + frameOf("") + frameOf("three")
	bad := func(at int, to byte) string {
		return good[:at] + string(to) + good[at+1:]
	}
	second := len(frameOf("one"))
	third := second + len(frameOf(""))
	for _, x := range []struct {
		file string
		want []string
	}{
		{good, []string{"one", "", "three"}},
		{good + "\x80", []string{"one", "", "three"}},
		{good + "\x05abcd", []string{"one", "", "three"}},
		{bad(1, 'O'), nil}, // a payload, and all behind it
		{bad(4, 'x'), nil}, // a checksum
		{bad(0, '\x02'), nil},
		{bad(second, '\x01'), []string{"one"}},
		{bad(second+4, 'x'), []string{"one"}},
		{bad(third+1, 'T'), []string{"one", ""}},
		{bad(len(good)-1, '\x11'), []string{"one", ""}},
		{"\x81\x80\x04" + strings.Repeat("x", 65541) + good, nil}, // too long a payload
		{frameOf("a") + frameOf(strings.Repeat("x", 65537)) + frameOf("b"), []string{"a"}},
		{"\x00" + good, nil},
		{"\x80" + good, nil},
		{strings.Repeat("\xff", 11) + good, nil},
		{strings.Repeat("\x00", 5), []string{""}},
		{strings.Repeat("\x00", 10), []string{"", ""}},
	} {
		d := with("wal-3", x.file, "wal-4", frameOf("next"))
		open(t, d, 3, 5, append(slices.Clone(x.want), "next")...)
	}
	for n := range len(good) { // each shorter beginning
		d := with("wal-3", good[:n], "wal-4", frameOf("next"))
		open(t, d, 3, 5, append(heldIn(good[:n]), "next")...)
	}
}

func TestOpenReadsAllLengths(t *testing.T) {
	file := ""
	var want []string
	for _, n := range []int{0, 1, 127, 128, 255, 256, 16383, 16384, 65535, 65536} {
		p := strings.Repeat(string(rune('a'+n%26)), n)
		file += frameOf(p)
		want = append(want, p)
	}
	for range 3000 {
		file += frameOf("z")
		want = append(want, "z")
	}
	open(t, with("wal-1", file, "wal-2", file), 1, 3, append(want, want...)...)
}

func TestOpenReadsManyFiles(t *testing.T) {
	d := disk.New()
	var want []string
	for n := 95; n < 1105; n++ {
		p := fmt.Sprint("payload ", n)
		d.Append(fmt.Sprint("wal-", n), []byte(frameOf(p)))
		want = append(want, p)
	}
	open(t, d, 95, 1105, want...)
	open(t, d, 96, 1105, want[1:]...)
	open(t, d, 1, 1)
	l := open(t, d, 1000, 1105, want[905:]...)
	check(t, "Drop", l.Drop(math.MaxInt), 0)
	open(t, d, 95, 1000, want[:905]...)
}

// Bytes that aren't synced are read too; a full disk is read; and reading is no change.
func TestOpenWritesNothing(t *testing.T) {
	d := with("wal-1", frameOf("a"), "wal-2", frameOf("b")+"\x01", "wal-5", frameOf("e"))
	d.Append("wal-1", []byte(frameOf("more")))
	d.Append("wal-3", []byte(frameOf("c")))
	for _, full := range []bool{false, true} {
		for _, n := range []int{-1, 1, 2, 7} {
			d := d.Clone()
			d.Fill(full)
			d.Arm(n)
			was := state(d)
			for range 3 {
				open(t, d, 1, 4, "a", "more", "b", "c")
				open(t, d, 2, 4, "b", "c")
				open(t, d, 4, 4)
				open(t, d, 5, 6, "e")
				open(t, d, 6, 6)
				refused(t, d, 0, api.ErrArg)
			}
			checkSame(t, "Open", d, was)
		}
	}
}

// P10.2

func TestAppend(t *testing.T) {
	d := disk.New()
	l := open(t, d, 7, 7)
	checkNames(t, d) // not made yet
	appended(t, l, "a")
	checkNames(t, d, "wal-7")
	checkFile(t, d, "wal-7", "a")
	appended(t, l, "", "bc", "a")
	checkFile(t, d, "wal-7", "a", "", "bc", "a")
	check(t, "Append(nil)", l.Append(nil), 0)
	checkFile(t, d, "wal-7", "a", "", "bc", "a", "")
	if l.Number() != 7 {
		t.Errorf("Number: %d", l.Number())
	}
	checkNames(t, d, "wal-7")
	c := d.Clone()
	c.Restart() // it isn't synced
	checkFile(t, c, "wal-7")
	was := d.Clone()
	was.Arm(2)
	l = open(t, was, 7, 8, "a", "", "bc", "a", "")
	appended(t, l, "x", "y") // a change each
	check(t, "Append", l.Append([]byte("z")), api.ErrDown)
}

// The first log's payloads stay where they are, and torn bytes too.
func TestAppendGoesOnInAFileOfItsOwn(t *testing.T) {
	d := with("wal-1", frameOf("a"), "wal-2", frameOf("b")+"\x05abc", "other", "x")
	l := open(t, d, 1, 3, "a", "b")
	appended(t, l, "c")
	checkNames(t, d, "other", "wal-1", "wal-2", "wal-3")
	checkFile(t, d, "wal-1", "a")
	checkFile(t, d, "wal-3", "c")
	if b, _ := d.Read("wal-2"); string(b) != frameOf("b")+"\x05abc" {
		t.Errorf("wal-2: %q", b)
	}
	open(t, d, 1, 4, "a", "b", "c")
	open(t, d, 2, 4, "b", "c")
	l = open(t, d, 9, 9)
	appended(t, l, "i")
	checkFile(t, d, "wal-9", "i")
}

func TestAppendOfALongPayload(t *testing.T) {
	full, down := disk.New(), disk.New()
	full.Fill(true)
	for _, d := range []*disk.Disk{disk.New(), full, down} {
		l := open(t, d, 1, 1)
		d.Arm(3)
		if d == down {
			d.Arm(0)
		}
		was := state(d)
		for _, n := range []int{65537, 65538, 131072, 1 << 20} { // ahead of the disk's errors, and no change
			check(t, "Append", l.Append(make([]byte, n)), api.ErrLong)
		}
		checkSame(t, "Append", d, was)
		check(t, "Sync", l.Sync(), 0) // nothing was appended
		check(t, "Rotate", l.Rotate(), 0)
		checkSame(t, "Sync", d, was)
		if l.Number() != 1 {
			t.Errorf("Number: %d", l.Number())
		}
	}
	d := disk.New()
	l := open(t, d, 1, 1)
	long := strings.Repeat("x", 65536)
	appended(t, l, long, long[1:])
	checkFile(t, d, "wal-1", long, long[1:])
	open(t, d, 1, 2, long, long[1:])
}

func TestAppendToAFullDisk(t *testing.T) {
	d := disk.New()
	l := open(t, d, 1, 1)
	d.Fill(true)
	d.Arm(2)
	check(t, "Append", l.Append([]byte("a")), api.ErrFull) // a change
	check(t, "Sync", l.Sync(), 0)                          // nothing was appended: none
	check(t, "Rotate", l.Rotate(), 0)
	checkNames(t, d)
	if l.Number() != 1 {
		t.Errorf("Number: %d", l.Number())
	}
	check(t, "Append", l.Append(nil), api.ErrFull)
	check(t, "Append", l.Append(nil), api.ErrDown)
	d.Restart()
	appended(t, l, "b")
	d.Fill(true)
	check(t, "Append", l.Append([]byte("c")), api.ErrFull)
	check(t, "Sync", l.Sync(), 0) // b is there, and a full disk can be synced
	d.Restart()
	checkFile(t, d, "wal-1", "b")
	check(t, "Rotate", l.Rotate(), 0)
	if l.Number() != 2 {
		t.Errorf("Number: %d", l.Number())
	}
}

func TestAppendToADiskThatIsDown(t *testing.T) {
	d := disk.New()
	l := open(t, d, 1, 1)
	d.Arm(0)
	check(t, "Append", l.Append([]byte("a")), api.ErrDown)
	check(t, "Sync", l.Sync(), 0) // nothing was appended, so the disk isn't asked
	check(t, "Rotate", l.Rotate(), 0)
	if l.Number() != 1 {
		t.Errorf("Number: %d", l.Number())
	}
	d.Restart()
	checkNames(t, d)
	d.Arm(1)
	appended(t, l, "b") // the disk goes down with it
	check(t, "Append", l.Append([]byte("c")), api.ErrDown)
	check(t, "Sync", l.Sync(), api.ErrDown)
	check(t, "Rotate", l.Rotate(), 0)
	if l.Number() != 2 {
		t.Errorf("Number: %d", l.Number())
	}
	check(t, "Sync", l.Sync(), 0)
}

func TestSync(t *testing.T) {
	d := disk.New()
	l := open(t, d, 1, 1)
	appended(t, l, "a", "b")
	check(t, "Sync", l.Sync(), 0)
	appended(t, l, "c")
	c := d.Clone()
	c.Restart()
	checkFile(t, c, "wal-1", "a", "b")
	check(t, "Sync", l.Sync(), 0)
	d.Restart()
	checkFile(t, d, "wal-1", "a", "b", "c")
}

// Without an append Sync asks nothing of the disk, whatever the disk is; with one it does so each time.
func TestSyncAsksOnlyBehindAnAppend(t *testing.T) {
	d := with("wal-1", frameOf("a"))
	d.Append("wal-1", []byte(frameOf("b")))
	l := open(t, d, 1, 2, "a", "b")
	d.Arm(6)
	was := state(d)
	for range 3 {
		check(t, "Sync", l.Sync(), 0)
	}
	checkSame(t, "Sync", d, was) // neither made nor synced
	appended(t, l, "c")          // 1
	for range 3 {                // 2, 3, 4
		check(t, "Sync", l.Sync(), 0)
	}
	check(t, "Rotate", l.Rotate(), 0)
	for range 3 {
		check(t, "Sync", l.Sync(), 0)
	}
	appended(t, l, "d") // 5
	check(t, "Rotate", l.Rotate(), 0)
	if d.Down() {
		t.Error("down behind 5 changes of 6")
	}
	appended(t, l, "e") // 6
	check(t, "Sync", l.Sync(), api.ErrDown)
	d.Restart()
	checkFile(t, d, "wal-1", "a")
	checkFile(t, d, "wal-2", "c")
	checkFile(t, d, "wal-3") // it was left behind unsynced
	checkFile(t, d, "wal-4")
}

// What another log has appended to the file is not this one's.
func TestSyncAsksOnlyBehindItsOwnAppend(t *testing.T) {
	d := disk.New()
	a, b := open(t, d, 1, 1), open(t, d, 1, 1)
	appended(t, a, "a")
	check(t, "Sync", b.Sync(), 0)
	check(t, "Rotate", b.Rotate(), 0)
	if b.Number() != 1 {
		t.Errorf("Number: %d", b.Number())
	}
	c := d.Clone()
	c.Restart()
	checkFile(t, c, "wal-1")
	appended(t, b, "b") // to the same file, behind it
	checkFile(t, d, "wal-1", "a", "b")
	check(t, "Sync", b.Sync(), 0)
	d.Restart()
	checkFile(t, d, "wal-1", "a", "b")
}

func TestSyncOfAFileThatIsGone(t *testing.T) {
	d := disk.New()
	l := open(t, d, 1, 1)
	appended(t, l, "a")
	d.Delete("wal-1")
	check(t, "Sync", l.Sync(), api.ErrNone)
	check(t, "Sync", l.Sync(), api.ErrNone)
	appended(t, l, "b")
	check(t, "Sync", l.Sync(), 0)
	checkFile(t, d, "wal-1", "b")
}

func TestRotate(t *testing.T) {
	d := disk.New()
	l := open(t, d, 1, 1)
	d.Arm(4)
	want := 1
	for i := range 4 {
		for range 3 { // without an append since, nothing
			check(t, "Rotate", l.Rotate(), 0)
			if l.Number() != want {
				t.Errorf("%d: Number: %d, not %d", i, l.Number(), want)
			}
		}
		appended(t, l, fmt.Sprint(i)) // also with the last change: then it is down
		check(t, "Rotate", l.Rotate(), 0)
		want++
		if l.Number() != want {
			t.Errorf("%d: Number: %d, not %d", i, l.Number(), want)
		}
	}
	d.Restart(9, 9, 9, 9)
	checkNames(t, d, "wal-1", "wal-2", "wal-3", "wal-4")
	for i := range 4 {
		checkFile(t, d, fmt.Sprint("wal-", i+1), fmt.Sprint(i))
	}
}

func TestRotateTakesTheNextFileAsItIs(t *testing.T) {
	d := with("wal-1", frameOf("a"), "wal-3", frameOf("x"))
	l := open(t, d, 1, 2, "a")
	appended(t, l, "b")
	check(t, "Rotate", l.Rotate(), 0)
	check(t, "Sync", l.Sync(), 0)
	appended(t, l, "c")
	checkFile(t, d, "wal-3", "x", "c")
	if l.Number() != 3 {
		t.Errorf("Number: %d", l.Number())
	}
}

func TestRotateAtTheLastNumber(t *testing.T) {
	d := disk.New()
	l := open(t, d, last-1, last-1)
	check(t, "Rotate", l.Rotate(), 0)
	appended(t, l, "a")
	check(t, "Rotate", l.Rotate(), 0)
	for range 3 { // also without an append, and on a disk that is down
		check(t, "Rotate", l.Rotate(), api.ErrMany)
		if l.Number() != last {
			t.Errorf("Number: %d", l.Number())
		}
		check(t, "Sync", l.Sync(), 0)
		d.Arm(0)
	}
	d.Restart(9)
	for i := range 3 {
		appended(t, l, "bcd"[i:i+1])
		check(t, "Rotate", l.Rotate(), api.ErrMany)
		if l.Number() != last {
			t.Errorf("Number: %d", l.Number())
		}
	}
	check(t, "Sync", l.Sync(), 0)
	d.Restart()
	checkFile(t, d, "wal-999999999", "a")
	checkFile(t, d, "wal-1000000000", "b", "c", "d")
	refused(t, d, last-1, api.ErrMany)
	check(t, "Drop", l.Drop(math.MaxInt), 0)
	checkNames(t, d, "wal-1000000000")
}

func TestNumber(t *testing.T) {
	d := with("wal-1", "", "wal-2", "", "wal-4", "")
	for first, want := range map[int]int{1: 3, 2: 3, 3: 3, 4: 5, 5: 5, 77: 77, last: last} {
		l, _, e := wal.Open(d, first)
		if e != 0 || l.Number() != want || l.Number() != want {
			t.Errorf("Open(%d): %d, %d, not %d", first, l.Number(), e, want)
		}
	}
	l := open(t, d, 1, 3)
	d.Append("wal-3", nil) // what comes there later doesn't change it
	if l.Number() != 3 {
		t.Errorf("Number: %d", l.Number())
	}
}

// P10.3

// five answers a disk with the files 3 to 7 of a log and some others, and the log that goes on at 8.
func five(t *testing.T) (*disk.Disk, *wal.Log) {
	t.Helper()
	d := with("wal-1", "x", "wal-2", "x", "x", "x")
	for n := 3; n < 8; n++ {
		d.Append(fmt.Sprint("wal-", n), []byte(frameOf(fmt.Sprint(n))))
	}
	return d, open(t, d, 3, 8, "3", "4", "5", "6", "7")
}

func TestDrop(t *testing.T) {
	names := []string{"wal-1", "wal-2", "wal-3", "wal-4", "wal-5", "wal-6", "wal-7", "wal-8", "x"}
	for _, below := range []int{math.MinInt, math.MinInt + 1, -1, 0, 1, 2, 3, 4, 5, 6, 7, 8, 9, 10, 1000, last, last + 1, math.MaxInt} {
		d, l := five(t)
		appended(t, l, "8")
		check(t, "Drop", l.Drop(below), 0)
		var want []string
		for i, name := range names { // neither those ahead of Open's first, nor the log's own
			if n := i + 1; n < 3 || n >= below || n >= 8 {
				want = append(want, name)
			}
		}
		checkNames(t, d, want...)
		checkFile(t, d, "wal-8", "8")
		if l.Number() != 8 {
			t.Errorf("Number: %d", l.Number())
		}
		appended(t, l, "9")
		checkFile(t, d, "wal-8", "8", "9")
	}
}

// The files that the log itself has left behind go too; the one it goes on in goes once it is left.
func TestDropBehindRotate(t *testing.T) {
	d, l := five(t)
	appended(t, l, "8")
	check(t, "Drop", l.Drop(9), 0)
	checkNames(t, d, "wal-1", "wal-2", "wal-8", "x")
	check(t, "Rotate", l.Rotate(), 0)
	check(t, "Drop", l.Drop(8), 0)
	checkNames(t, d, "wal-1", "wal-2", "wal-8", "x")
	check(t, "Drop", l.Drop(9), 0)
	checkNames(t, d, "wal-1", "wal-2", "x")
	appended(t, l, "9")
	checkNames(t, d, "wal-1", "wal-2", "wal-9", "x")
}

// Each file is a change, in order, and none is tried that is below first, gone, or the log's own.
func TestDropGoesInOrder(t *testing.T) {
	for n := range 8 {
		d, l := five(t)
		d.Arm(n)
		want := api.ErrDown
		if n >= 5 {
			want = 0
		}
		check(t, "Drop", l.Drop(99), want)
		if d.Down() != (n <= 5) {
			t.Errorf("%d changes: down: %t", n, d.Down())
		}
		check(t, "Drop", l.Drop(99), want) // what is gone isn't tried again
		d.Restart(99, 99, 99, 99, 99, 99, 99)
		left := []string{"wal-1", "wal-2"}
		for i := 3 + n; i < 8; i++ {
			left = append(left, fmt.Sprint("wal-", i))
		}
		checkNames(t, d, append(left, "x")...)
		d.Arm(max(5-n, 0) + 1) // and the rest takes a change each
		check(t, "Drop", l.Drop(99), 0)
		if d.Down() {
			t.Errorf("%d changes, and %d: down", n, max(5-n, 0))
		}
		checkNames(t, d, "wal-1", "wal-2", "x")
	}
}

func TestDropDoesNotTryAgain(t *testing.T) {
	d, l := five(t)
	check(t, "Drop", l.Drop(5), 0)
	d.Append("wal-3", []byte("new")) // of somebody else
	d.Append("wal-4", []byte("new"))
	for range 2 {
		check(t, "Drop", l.Drop(5), 0)
		check(t, "Drop", l.Drop(4), 0)
		check(t, "Drop", l.Drop(6), 0)
		checkNames(t, d, "wal-1", "wal-2", "wal-3", "wal-4", "wal-6", "wal-7", "x")
	}
	d.Arm(1)
	check(t, "Drop", l.Drop(6), 0) // no change
	if d.Down() {
		t.Error("down")
	}
	check(t, "Drop", l.Drop(7), 0)
	if !d.Down() {
		t.Error("not down")
	}
	check(t, "Drop", l.Drop(7), 0)
	check(t, "Drop", l.Drop(8), api.ErrDown)
}

func TestDropOfFilesThatAreGone(t *testing.T) {
	d, l := five(t)
	d.Delete("wal-3")
	d.Delete("wal-5")
	d.Arm(5)
	check(t, "Drop", l.Drop(8), 0) // five changes, of which two are refused
	if !d.Down() {
		t.Error("not down")
	}
	check(t, "Drop", l.Drop(8), 0)
	d.Restart()
	d.Append("wal-3", nil)
	d.Append("wal-5", nil)
	check(t, "Drop", l.Drop(8), 0) // they count as gone
	checkNames(t, d, "wal-1", "wal-2", "wal-3", "wal-5", "x")
}

func TestDropOfNothing(t *testing.T) {
	d := with("wal-1", "x")
	l := open(t, d, 2, 2)
	d.Arm(0)
	for _, below := range []int{math.MinInt, 0, 1, 2, 3, math.MaxInt} {
		check(t, "Drop", l.Drop(below), 0) // the disk isn't asked
	}
	d.Restart()
	checkNames(t, d, "wal-1")
}

func TestDropOnAFullDisk(t *testing.T) {
	d, l := five(t)
	d.Fill(true)
	check(t, "Drop", l.Drop(7), 0)
	checkNames(t, d, "wal-1", "wal-2", "wal-7", "x")
}

// Where a log is opened from, what is below it was dropped: the promise that a gap ends a log's files.
func TestDropAndOpen(t *testing.T) {
	d, l := five(t)
	appended(t, l, "8")
	check(t, "Drop", l.Drop(6), 0)
	open(t, d, 6, 9, "6", "7", "8")
	open(t, d, 5, 5)
	open(t, d, 3, 3)
}

// P10.4

// history is what was appended to a log, in order, and how many of them were synced.
type history struct {
	l      []string
	synced int
}

// perform does steps on a log that lies on d: '0' to '9' append so many bytes, 's' syncs, 'r' rotates where all is synced. It answers when the disk is down.
func (h *history) perform(t *testing.T, d *disk.Disk, l *wal.Log, steps string) {
	t.Helper()
	for i := range len(steps) {
		var e api.Errno
		switch c := steps[i]; c {
		case 's':
			if e = l.Sync(); e == 0 {
				h.synced = len(h.l)
			}
		case 'r':
			if h.synced == len(h.l) {
				e = l.Rotate()
			}
		default:
			p := strings.Repeat(fmt.Sprint(len(h.l)%10), int(c-'0'))
			if e = l.Append([]byte(p)); e == 0 {
				h.l = append(h.l, p)
			}
		}
		if e != 0 && !d.Down() {
			t.Fatalf("%s: %c: %d", steps, steps[i], e)
		}
		if d.Down() {
			return
		}
	}
}

// found checks what is found behind a crash, once and once more, and answers it as the history of the log that was opened.
func (h *history) found(t *testing.T, what string, d *disk.Disk, first int) (*wal.Log, *history) {
	t.Helper()
	l, held, e := wal.Open(d, first)
	if e != 0 {
		t.Fatalf("%s: Open: %d", what, e)
	}
	if n := len(held); n < h.synced || n > len(h.l) || !slices.Equal(texts(held), h.l[:n]) {
		t.Fatalf("%s: %q, of %q with %d synced", what, held, h.l, h.synced)
	}
	_, again, e := wal.Open(d, first)
	if e != 0 || !slices.Equal(texts(again), texts(held)) {
		t.Fatalf("%s: once more: %q, %d, not %q", what, again, e, held)
	}
	d.Restart() // and behind one more crash
	if _, again, e = wal.Open(d, first); e != 0 || !slices.Equal(texts(again), texts(held)) {
		t.Fatalf("%s: behind one more crash: %q, %d, not %q", what, again, e, held)
	}
	return l, &history{l: texts(held), synced: len(held)}
}

// crash does steps on a log on a new disk that goes down behind n changes and keeps so many of each file's other bytes, and looks at what is found.
func crash(t *testing.T, steps string, n, keep int) (*disk.Disk, *wal.Log, *history) {
	t.Helper()
	d, h := disk.New(), &history{}
	l := open(t, d, 1, 1)
	d.Arm(n)
	h.perform(t, d, l, steps)
	d.Restart(slices.Repeat([]int{keep}, 20)...)
	l, h = h.found(t, fmt.Sprintf("%s, %d changes, %d kept", steps, n, keep), d, 1)
	return d, l, h
}

// All rows of up to five steps, each crash, and what is kept.
func TestCrashes(t *testing.T) {
	var try func(steps string)
	try = func(steps string) {
		for n := range len(steps) + 1 {
			for keep := range 8 * (1 + strings.Count(steps, "3")) {
				crash(t, steps, n, keep)
			}
		}
		if len(steps) == 5 {
			return
		}
		for _, c := range "03sr" {
			try(steps + string(c))
		}
	}
	try("")
}

// The second log goes on behind the first one's torn frame, and so on.
func TestCrashBehindCrash(t *testing.T) {
	r := rand.New(rand.NewSource(10))
	for range 4000 {
		d, h := disk.New(), &history{}
		first := 1 + r.Intn(12)
		l := open(t, d, first, first)
		what := ""
		for range 6 {
			steps := ""
			for range r.Intn(15) {
				steps += string("013579sssrr"[r.Intn(11)])
			}
			n, keep := r.Intn(18)-1, r.Intn(30)
			what += fmt.Sprintf("%s, %d changes, %d kept; ", steps, n, keep)
			d.Arm(n)
			h.perform(t, d, l, steps)
			d.Restart(slices.Repeat([]int{keep}, 100)...)
			l, h = h.found(t, what, d, first)
		}
	}
}

// Nothing is lost that was appended, when nothing crashes, and a frame is there once all its bytes are.
func TestKeptBytes(t *testing.T) {
	for keep := range 25 {
		_, _, h := crash(t, "1s234", 99, keep)
		want := []string{"0", "11", "222", "3333"}[:1+min(keep/7, 1)+min(keep/15, 1)+min(keep/24, 1)]
		if !slices.Equal(h.l, want) {
			t.Errorf("%d kept: %q, not %q", keep, h.l, want)
		}
	}
}

// P10.5

func TestNilLog(t *testing.T) {
	var l *wal.Log
	for _, p := range [][]byte{nil, {}, []byte("a"), make([]byte, 65537)} { // ahead of ErrLong
		check(t, "nil: Append", l.Append(p), api.ErrNil)
	}
	check(t, "nil: Sync", l.Sync(), api.ErrNil)
	check(t, "nil: Rotate", l.Rotate(), api.ErrNil)
	for _, below := range append(no(), 1, last) {
		check(t, "nil: Drop", l.Drop(below), api.ErrNil)
	}
	if l.Number() != 0 {
		t.Errorf("nil: Number: %d", l.Number())
	}
}

// What is handed in stays, its spare room too, and isn't kept.
func TestHandedIn(t *testing.T) {
	d := disk.New()
	l := open(t, d, 1, 1)
	for _, n := range []int{0, 1, 3, 130} {
		room := []byte(strings.Repeat("payload and spare room", 10))
		was := string(room)
		check(t, "Append", l.Append(room[:n]), 0)
		if string(room) != was {
			t.Errorf("Append: %q", room)
		}
		clear(room)
	}
	s := strings.Repeat("payload and spare room", 10)
	checkFile(t, d, "wal-1", "", s[:1], s[:3], s[:130])
}

// What is answered is new memory, its spare room too: no payload shares any with another one, nor with the disk.
func TestAnsweredIsNew(t *testing.T) {
	want := []string{"one", "", "two", strings.Repeat("x", 200), "z"}
	d := disk.New()
	l := open(t, d, 1, 1)
	appended(t, l, want[:2]...)
	check(t, "Rotate", l.Rotate(), 0)
	appended(t, l, want[2:]...)
	was := state(d)
	_, a, _ := wal.Open(d, 1)
	_, b, _ := wal.Open(d, 1)
	for i := range a {
		if string(a[i]) != want[i] {
			t.Errorf("payload %d was changed through another one: %q", i, a[i])
		}
		clear(a[i][:cap(a[i])])
		a[i] = append(a[i], "more than there was"...)
	}
	clear(a[:cap(a)])
	if !slices.Equal(texts(b), want) {
		t.Errorf("another answer was changed: %q", b)
	}
	checkSame(t, "what is answered", d, was)
	open(t, d, 1, 3, want...)
}

// The disk is kept: what happens to it beside the log is seen by the log.
func TestTheDiskIsKept(t *testing.T) {
	d := disk.New()
	l := open(t, d, 1, 1)
	d.Append("wal-1", []byte(frameOf("x")))
	appended(t, l, "a")
	checkFile(t, d, "wal-1", "x", "a")
	d.Restart()
	checkFile(t, d, "wal-1")
	appended(t, l, "b")
	checkFile(t, d, "wal-1", "b")
}

// Two disks have nothing to do with one another, nor have two logs but for their disk.
func TestLogsAlone(t *testing.T) {
	d := with("wal-1", frameOf("a"))
	c := d.Clone()
	one, two, three := open(t, d, 1, 2, "a"), open(t, c, 1, 2, "a"), open(t, d, 1, 2, "a")
	appended(t, one, "b")
	check(t, "Rotate", one.Rotate(), 0)
	check(t, "Rotate", two.Rotate(), 0)
	check(t, "Rotate", three.Rotate(), 0)
	if one.Number() != 3 || two.Number() != 2 || three.Number() != 2 {
		t.Errorf("Number: %d, %d, %d", one.Number(), two.Number(), three.Number())
	}
	check(t, "Drop", one.Drop(9), 0)
	checkNames(t, d)
	checkNames(t, c, "wal-1")
}

// The whole, by the chapter's words

// pair is a log and its model, each on a disk of its own; both disks are given the same.
type pair struct {
	d, of *disk.Disk
	l     *wal.Log
	m     *model
	told  []string
}

// both does something with both disks.
func (p *pair) both(f func(*disk.Disk)) {
	f(p.d)
	f(p.of)
}

// open opens both logs.
func (p *pair) open(first int) (string, string) {
	l, held, e := wal.Open(p.d, first)
	m, want, f := openModel(p.of, first)
	if e == 0 && f == 0 {
		p.l, p.m = l, m
	}
	return fmt.Sprintf("%t %q %d", l != nil, held, e), fmt.Sprintf("%t %q %d", m != nil, want, f)
}

// names are those of files of a log and of others.
func names(r *rand.Rand) string {
	return []string{"wal-8", "wal-9", "wal-10", "wal-11", "wal-12", "wal-13", "wal-08", "x"}[r.Intn(8)]
}

// step does something by chance with both, and answers what they answered.
func (p *pair) step(r *rand.Rand) (string, string) {
	told := ""
	a, want := "", ""
	switch r.Intn(16) {
	case 0, 1, 2, 3:
		s := []string{"", "a", "bc", strings.Repeat("d", 130), strings.Repeat("e", 65537)}[r.Intn(5)]
		told = fmt.Sprint("Append of ", len(s))
		a, want = fmt.Sprint(p.l.Append([]byte(s))), fmt.Sprint(p.m.append(s))
	case 4, 5, 6:
		told = "Sync"
		a, want = fmt.Sprint(p.l.Sync()), fmt.Sprint(p.m.sync())
	case 7, 8:
		told = "Rotate"
		a, want = fmt.Sprint(p.l.Rotate()), fmt.Sprint(p.m.rotate())
	case 9, 10:
		below := 6 + r.Intn(9)
		told = fmt.Sprint("Drop ", below)
		a, want = fmt.Sprint(p.l.Drop(below)), fmt.Sprint(p.m.drop(below))
	case 11:
		first := []int{8, 9, 9, 9, 10, 11, 0, last, last + 1}[r.Intn(9)]
		told = fmt.Sprint("Open ", first)
		a, want = p.open(first)
	case 12:
		full := r.Intn(2) == 0
		told = fmt.Sprint("Fill ", full)
		p.both(func(d *disk.Disk) { d.Fill(full) })
	case 13:
		n := r.Intn(9) - 1
		told = fmt.Sprint("Arm ", n)
		p.both(func(d *disk.Disk) { d.Arm(n) })
	case 14:
		keep := []int{r.Intn(9), r.Intn(9), r.Intn(9), 1000}
		told = fmt.Sprint("Restart ", keep)
		p.both(func(d *disk.Disk) { d.Restart(keep...) })
	default:
		name := names(r)
		s := []string{frameOf("beside"), "\x05torn", "", "gone", "gone"}[r.Intn(5)]
		told = fmt.Sprintf("%s: %q", name, s)
		p.both(func(d *disk.Disk) {
			if s == "gone" {
				d.Delete(name)
				return
			}
			d.Append(name, []byte(s))
		})
	}
	p.told = append(p.told, told)
	return a, want
}

// differ tells where a log differs from the model in n steps by chance; "" if it doesn't.
func differ(r *rand.Rand, n int) string {
	p := &pair{d: disk.New(), of: disk.New()}
	p.open(9)
	for range n {
		a, want := p.step(r)
		if a != want {
			return fmt.Sprintf("%q: %s, not %s", p.told, brief(a), brief(want))
		}
		if p.l.Number() != p.m.number {
			return fmt.Sprintf("%q: number %d, not %d", p.told, p.l.Number(), p.m.number)
		}
		if a, want = state(p.d), state(p.of); a != want {
			return fmt.Sprintf("%q: the disk is %s, not %s", p.told, brief(a), brief(want))
		}
	}
	return ""
}

func TestScripts(t *testing.T) {
	r := rand.New(rand.NewSource(4))
	for range 2000 {
		if why := differ(r, 1+r.Intn(50)); why != "" {
			t.Fatal(why)
		}
	}
}

// A log hangs on its own calls alone: many at once, each with its own disk, answer as one does.
func TestManyAtOnce(t *testing.T) {
	var all sync.WaitGroup
	for i := range 8 {
		all.Go(func() {
			r := rand.New(rand.NewSource(int64(i)))
			for range 50 {
				if why := differ(r, 30); why != "" {
					t.Error(why)
					return
				}
			}
		})
	}
	all.Wait()
}

func TestLimitsAreThoseOfTheDocument(t *testing.T) {
	if api.MaxFrame != 65536 || api.ErrArg != 1 || api.ErrNil != 2 || api.ErrMany != 3 || api.ErrLong != 4 || api.ErrFull != 20 || api.ErrNone != 21 || api.ErrDown != 23 {
		t.Error("a limit or an error is another one")
	}
}

// The chapter's examples

func TestExamples(t *testing.T) {
	if s := wal.Name(7); s != "wal-7" {
		t.Errorf("Name(7): %q", s)
	}
	d := disk.New()
	l := open(t, d, 1, 1)
	appended(t, l, "a", "b")
	check(t, "Sync", l.Sync(), 0)
	d.Restart()
	l = open(t, d, 1, 2, "a", "b")
	appended(t, l, "c")
	d.Restart(0, 3)
	if b, _ := d.Read("wal-2"); string(b) != frameOf("c")[:3] {
		t.Errorf("wal-2: %q", b)
	}
	l = open(t, d, 1, 3, "a", "b")
	check(t, "Drop", l.Drop(2), 0)
	checkNames(t, d, "wal-2")
}
