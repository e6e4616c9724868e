package disk_test

import (
	"bytes"
	"fmt"
	"math"
	"math/rand"
	"slices"
	"strconv"
	"strings"
	"sync"
	"testing"

	"garner/api"
	"garner/disk"
)

// The kinds of steps.
const (
	doAppend = iota
	doSync
	doRename
	doDelete
	doRead
	doList
	doFill
	doArm
	doRestart
)

// step is a call on a disk.
type step struct {
	kind     int
	name, to string
	data     string
	full     bool
	n        int
	keep     []int
}

func put(name, data string) step { return step{kind: doAppend, name: name, data: data} }
func save(name string) step      { return step{kind: doSync, name: name} }
func move(from, to string) step  { return step{kind: doRename, name: from, to: to} }
func drop(name string) step      { return step{kind: doDelete, name: name} }
func look(name string) step      { return step{kind: doRead, name: name} }
func names() step                { return step{kind: doList} }
func fill(full bool) step        { return step{kind: doFill, full: full} }
func arm(n int) step             { return step{kind: doArm, n: n} }
func restart(keep ...int) step   { return step{kind: doRestart, keep: keep} }

// String tells a step.
func (s step) String() string {
	switch s.kind {
	case doAppend:
		return fmt.Sprintf("Append(%q, %q)", s.name, s.data)
	case doSync:
		return fmt.Sprintf("Sync(%q)", s.name)
	case doRename:
		return fmt.Sprintf("Rename(%q, %q)", s.name, s.to)
	case doDelete:
		return fmt.Sprintf("Delete(%q)", s.name)
	case doRead:
		return fmt.Sprintf("Read(%q)", s.name)
	case doList:
		return "List()"
	case doFill:
		return fmt.Sprintf("Fill(%t)", s.full)
	case doArm:
		return fmt.Sprintf("Arm(%d)", s.n)
	}
	return fmt.Sprintf("Restart(%d)", s.keep)
}

// changes are a step of each kind that is a change, with such names.
func changes(name, to string) []step {
	return []step{put(name, "data"), put(name, ""), save(name), move(name, to), drop(name)}
}

// answer tells what a call answered.
func answer(e api.Errno, a ...any) string {
	return fmt.Sprintf("%d %q", e, a)
}

// run does a step on a disk, and tells its answer.
func (s step) run(d *disk.Disk) string {
	switch s.kind {
	case doAppend:
		return answer(d.Append(s.name, []byte(s.data)))
	case doSync:
		return answer(d.Sync(s.name))
	case doRename:
		return answer(d.Rename(s.name, s.to))
	case doDelete:
		return answer(d.Delete(s.name))
	case doRead:
		b, e := d.Read(s.name)
		return answer(e, string(b))
	case doList:
		l, e := d.List()
		return answer(e, strings.Join(l, " "))
	case doFill:
		d.Fill(s.full)
	case doArm:
		d.Arm(s.n)
	case doRestart:
		d.Restart(s.keep...)
	}
	return answer(api.OK)
}

// mark is a byte of a file of the model.
type mark struct {
	c      byte
	synced bool
}

// model is a disk by the chapter's words: what is left is counted up, and each byte knows whether it is synced.
type model struct {
	files      map[string][]mark
	full, down bool
	armed      bool
	done, last int // changes since it was armed, and with how many it goes down
}

func newModel() *model { return &model{files: map[string][]mark{}} }

// wellNamed tells whether all that are handed in are names.
func wellNamed(l ...string) bool {
	for _, name := range l {
		if strings.Trim(name, "abcdefghijklmnopqrstuvwxyz0123456789.-") != "" || len(name) < 1 || len(name) > 32 {
			return false
		}
	}
	return true
}

// sorted answers the names of m's files in the order of their bytes.
func (m *model) sorted() []string {
	var l []string
	for name := range m.files {
		l = append(l, name)
	}
	slices.SortFunc(l, func(a, b string) int { return bytes.Compare([]byte(a), []byte(b)) })
	return l
}

// text answers the bytes of a file.
func (m *model) text(name string) string {
	var b []byte
	for _, c := range m.files[name] {
		b = append(b, c.c)
	}
	return string(b)
}

// runModel does a step on the model, and tells what the chapter's words say of the answer.
func (s step) runModel(m *model) string {
	switch s.kind {
	case doFill:
		m.full = s.full
		return answer(api.OK)
	case doArm:
		if !m.down {
			m.armed, m.done, m.last, m.down = s.n >= 0, 0, s.n, s.n == 0
		}
		return answer(api.OK)
	case doRestart:
		m.restart(s.keep)
		return answer(api.OK)
	}
	asked := []string{s.name}
	if s.kind == doRename {
		asked = []string{s.name, s.to}
	}
	if s.kind != doList && !wellNamed(asked...) {
		return s.failed(api.ErrArg)
	}
	if m.down {
		return s.failed(api.ErrDown)
	}
	if s.kind == doList {
		return answer(api.OK, strings.Join(m.sorted(), " "))
	}
	if s.kind == doRead {
		if _, ok := m.files[s.name]; !ok {
			return s.failed(api.ErrNone)
		}
		return answer(api.OK, m.text(s.name))
	}
	a := answer(m.change(s))
	m.done++
	m.down = m.armed && m.done == m.last
	return a
}

// failed tells an error as the call of that step answers it.
func (s step) failed(e api.Errno) string {
	if s.kind == doRead || s.kind == doList {
		return answer(e, "")
	}
	return answer(e)
}

// change does a change on the model.
func (m *model) change(s step) api.Errno {
	f, ok := m.files[s.name]
	if s.kind == doAppend {
		if m.full {
			return api.ErrFull
		}
		for i := range len(s.data) {
			f = append(f, mark{s.data[i], false})
		}
		m.files[s.name] = f
		return api.OK
	}
	if !ok {
		return api.ErrNone
	}
	if s.kind == doSync {
		for i := range f {
			f[i].synced = true
		}
		return api.OK
	}
	if s.kind == doDelete {
		delete(m.files, s.name)
		return api.OK
	}
	if s.name != s.to {
		m.files[s.to] = f
		delete(m.files, s.name)
	}
	return api.OK
}

// restart brings the model up.
func (m *model) restart(keep []int) {
	for i, name := range m.sorted() {
		f, lost := m.files[name], 0
		for lost < len(f) && f[lost].synced {
			lost++
		}
		for j := 0; i < len(keep) && j < keep[i] && lost < len(f); j++ {
			lost++
		}
		f = f[:lost:lost]
		for j := range f {
			f[j].synced = true
		}
		m.files[name] = f
	}
	m.full, m.down, m.armed = false, false, false
}

// state tells what a disk answers without a change: whether it is down, its names, and what stands in its files.
func state(d *disk.Disk) string {
	l, e := d.List()
	s := fmt.Sprint(d.Down(), " ", answer(e, strings.Join(l, " ")))
	for _, name := range l {
		s += " " + look(name).run(d)
	}
	return s
}

// modelState tells what the chapter's words say of the same.
func modelState(m *model) string {
	s := fmt.Sprint(m.down, " ", names().runModel(m))
	if m.down {
		return s
	}
	for _, name := range m.sorted() {
		s += " " + look(name).runModel(m)
	}
	return s
}

// differ tells where a disk that does the steps differs from the model; "" if it doesn't.
func differ(steps []step) string {
	d, m := disk.New(), newModel()
	for i, s := range steps {
		a, want := s.run(d), s.runModel(m)
		if a != want {
			return fmt.Sprintf("%v: step %d answers %s, not %s", steps[:i+1], i, a, want)
		}
		if a, want = state(d), modelState(m); a != want {
			return fmt.Sprintf("%v: there is %s, not %s", steps[:i+1], a, want)
		}
	}
	return ""
}

// after answers a disk that has done the steps.
func after(steps ...step) *disk.Disk {
	d := disk.New()
	for _, s := range steps {
		s.run(d)
	}
	return d
}

// check checks a call's error.
func check(t *testing.T, what any, e, want api.Errno) {
	t.Helper()
	if e != want {
		t.Errorf("%s: %d, not %d", strconv.Quote(fmt.Sprint(what)), e, want)
	}
}

// checkRun checks what a step answers beside its error, which is want, nothing.
func checkRun(t *testing.T, d *disk.Disk, s step, want api.Errno) {
	t.Helper()
	if a := s.run(d); a != s.failed(want) {
		t.Errorf("%v: %s, not %d", s, a, want)
	}
}

// checkFile checks what stands in a file.
func checkFile(t *testing.T, d *disk.Disk, name, want string) {
	t.Helper()
	if b, e := d.Read(name); string(b) != want || e != api.OK {
		t.Errorf("Read(%q): %q, %d, not %q", name, b, e, want)
	}
}

// checkFiles checks what files there are.
func checkFiles(t *testing.T, d *disk.Disk, want ...string) {
	t.Helper()
	if l, e := d.List(); !slices.Equal(l, want) || e != api.OK {
		t.Errorf("List: %q, %d, not %q", l, e, want)
	}
}

// P5.1

func TestNew(t *testing.T) {
	d := disk.New()
	if d == nil || d.Down() {
		t.Fatal("New: nil, or down")
	}
	checkFiles(t, d)
	checkRun(t, d, look("a"), api.ErrNone)
	for i := range 1 << 21 { // neither full nor armed, for however many changes
		if e := d.Append("a", nil); e != api.OK {
			t.Fatalf("Append %d: %d", i, e)
		}
	}
	for i := range 1000 {
		check(t, i, d.Append("a", []byte("x")), api.OK)
	}
	checkFile(t, d, "a", strings.Repeat("x", 1000))
	if c := disk.New(); state(c) != state(disk.New()) || c == d { // each its own
		t.Error("New: not new")
	}
}

// named are the steps of each kind with that name, at each place where one stands.
func named(name string) []step {
	return []step{put(name, "x"), put(name, ""), save(name), move(name, "a"), move("a", name), move("none", name), move(name, name), drop(name), look(name)}
}

func TestNames(t *testing.T) {
	good := []string{"a", "z", "0", "9", ".", "-", "..", "--", "a.b-c.0", ".a", "-1", "wal-1", "manifest.new", strings.Repeat("a", 31), strings.Repeat("a", 32), strings.Repeat("-", 32), "abcdefghijklmnopqrstuvwxyz012345", "6789.-"}
	bad := []string{"", "A", "Z", "_", "/", " ", "a b", "a ", " a", "a/b", "aB", "Ab", "a_", "a\n", "\x00", "a\x00", "\x00a", "\xff", "a\xff", "\xc3", "é", "aé", "ß", "ä", "а", "ａ", "٣", "²", "a,b", "a:b", "`", "{", "@", "[", "+", strings.Repeat("a", 33), strings.Repeat("a", 34), strings.Repeat("é", 16), strings.Repeat("é", 17), strings.Repeat("a", 1<<16), strings.Repeat("A", 32)}
	for c := range 256 {
		name := string([]byte{byte(c)})
		if strings.Contains("abcdefghijklmnopqrstuvwxyz0123456789.-", name) {
			good = append(good, name, "m"+name+"m", strings.Repeat("m", 31)+name)
		} else {
			bad = append(bad, name, "m"+name, name+"m", "m"+name+"m", strings.Repeat("m", 31)+name, name+strings.Repeat("m", 31))
		}
	}
	for _, name := range good {
		d := disk.New()
		check(t, name, d.Append(name, []byte("x")), api.OK)
		checkFiles(t, d, name)
		checkFile(t, d, name, "x")
		check(t, name, d.Sync(name), api.OK)
		check(t, name, d.Rename(name, "a"), api.OK)
		check(t, name, d.Rename("a", name), api.OK)
		checkFile(t, d, name, "x")
		check(t, name, d.Delete(name), api.OK)
		checkFiles(t, d)
	}
	for _, name := range bad {
		for _, d := range []*disk.Disk{after(put("a", "xy"), save("a"), put("a", "z")), after(put("a", "xy"), save("a"), put("a", "z"), fill(true)), after(put("a", ""), arm(0))} {
			was := state(d)
			for _, s := range named(name) { // ahead of ErrDown, ErrNone and ErrFull
				checkRun(t, d, s, api.ErrArg)
			}
			if state(d) != was {
				t.Errorf("%q: %s, not %s", name, state(d), was)
			}
		}
	}
}

// Names that differ in little are different ones.
func TestNamesAreDifferent(t *testing.T) {
	d := disk.New()
	l := []string{"-", "-a", ".", "..", "0", "00", "a", "a-", "a.", "a0", "aa", "ab", "b"}
	for i := range l {
		name := l[(i*5+3)%len(l)]
		check(t, name, d.Append(name, []byte("in "+name)), api.OK)
	}
	checkFiles(t, d, l...)
	for _, name := range l {
		checkFile(t, d, name, "in "+name)
	}
}

// P5.2

func TestAppend(t *testing.T) {
	d := disk.New()
	all := ""
	for _, s := range []string{"", "xy", "", "z", "\x00\xff", "é", strings.Repeat("long", 50000), "", "end"} {
		check(t, "Append", d.Append("a", []byte(s)), api.OK)
		all += s
		checkFile(t, d, "a", all)
		checkFiles(t, d, "a")
	}
	check(t, "Append", d.Append("b", nil), api.OK) // a file without bytes is one too
	checkFiles(t, d, "a", "b")
	checkFile(t, d, "b", "")
	checkFile(t, d, "a", all)
}

func TestFull(t *testing.T) {
	d := after(put("a", "xy"), fill(true))
	for range 2 {
		checkRun(t, d, put("a", "z"), api.ErrFull)
		checkRun(t, d, put("a", ""), api.ErrFull)
		checkRun(t, d, put("b", "z"), api.ErrFull)
		checkRun(t, d, put("b", ""), api.ErrFull)
		checkFiles(t, d, "a")
		checkFile(t, d, "a", "xy")
		d.Fill(true)
	}
	for _, s := range []step{save("a"), move("a", "b"), save("b"), move("b", "b"), names(), look("b"), drop("b")} { // the others don't need room
		if a := s.run(d); !strings.HasPrefix(a, "0 ") {
			t.Errorf("%v on a full disk: %s", s, a)
		}
	}
	for _, s := range []step{save("b"), move("b", "a"), drop("b"), look("b")} {
		checkRun(t, d, s, api.ErrNone)
	}
	d.Fill(false)
	checkRun(t, d, put("a", "z"), api.OK)
	checkFile(t, d, "a", "z")
	d.Fill(false)
	checkRun(t, d, put("a", ""), api.OK)
}

func TestSync(t *testing.T) {
	d := disk.New()
	checkRun(t, d, save("a"), api.ErrNone)
	checkFiles(t, d) // it makes none
	for _, s := range []step{put("a", "xy"), put("b", "xy"), save("a"), save("a"), put("a", "z"), put("c", ""), save("c")} {
		checkRun(t, d, s, api.OK)
	}
	checkFile(t, d, "a", "xyz")
	d.Restart()
	checkFile(t, d, "a", "xy")
	checkFile(t, d, "b", "") // of another file nothing is synced
	checkFile(t, d, "c", "")
	checkRun(t, d, save("d"), api.ErrNone)
}

func TestRename(t *testing.T) {
	d := after(put("a", "xy"), save("a"), put("a", "z"), put("b", "123"), save("b"), put("b", "4"))
	for _, s := range []step{move("c", "a"), move("c", "d"), move("c", "c")} {
		checkRun(t, d, s, api.ErrNone)
		checkFiles(t, d, "a", "b")
	}
	checkRun(t, d, move("a", "a"), api.OK)
	checkFiles(t, d, "a", "b")
	checkFile(t, d, "a", "xyz")
	checkRun(t, d, move("a", "c"), api.OK)
	checkFiles(t, d, "b", "c")
	checkFile(t, d, "c", "xyz")
	checkRun(t, d, look("a"), api.ErrNone)
	checkRun(t, d, move("b", "c"), api.OK) // c's own is gone
	checkFiles(t, d, "c")
	checkFile(t, d, "c", "1234")
	checkRun(t, d, put("b", "new"), api.OK) // and b is free, with nothing of the other
	checkFile(t, d, "b", "new")
	checkRun(t, d, put("c", "5"), api.OK)
	checkFile(t, d, "b", "new")
	d.Restart(1, 1)
	checkFile(t, d, "b", "n")
	checkFile(t, d, "c", "1234") // its synced bytes went with it
}

// What is synced of a file that is gone says nothing of the one in its stead.
func TestRenameTakesSyncedBytes(t *testing.T) {
	for _, c := range []struct {
		a, b string // what is synced of each
		want string // behind a rename of a to b and a crash
	}{
		{"", "12345", ""}, {"xy", "", "xy"}, {"xy", "12345", "xy"}, {"", "", ""}, {"x", "1", "x"},
	} {
		d := after(put("a", c.a), save("a"), put("a", "more"), put("b", c.b), save("b"), put("b", "more"), move("a", "b"), restart())
		checkFiles(t, d, "b")
		checkFile(t, d, "b", c.want)
		d = after(put("a", c.a), save("a"), put("a", "more"), move("a", "a"), restart())
		checkFile(t, d, "a", c.a)
	}
}

func TestDelete(t *testing.T) {
	d := after(put("a", "xy"), save("a"), put("b", "z"))
	checkRun(t, d, drop("c"), api.ErrNone)
	checkRun(t, d, drop("a"), api.OK)
	checkFiles(t, d, "b")
	checkRun(t, d, drop("a"), api.ErrNone)
	for _, s := range []step{look("a"), save("a"), move("a", "b")} {
		checkRun(t, d, s, api.ErrNone)
	}
	checkFile(t, d, "b", "z")
	checkRun(t, d, put("a", "1"), api.OK) // nothing of what was there
	checkFile(t, d, "a", "1")
	d.Restart()
	checkFile(t, d, "a", "")
}

// What files there are and what they are called outlasts a crash without a Sync; what stands in them doesn't.
func TestLasting(t *testing.T) {
	d := after(put("a", "xy"), put("b", ""), put("c", "xy"), put("d", "xy"), save("d"), put("e", "xy"), save("e"), put("f", "xy"), save("f"))
	for _, s := range []step{move("c", "g"), drop("d"), move("e", "f")} {
		checkRun(t, d, s, api.OK)
	}
	d.Restart()
	checkFiles(t, d, "a", "b", "f", "g")
	for name, want := range map[string]string{"a": "", "b": "", "f": "xy", "g": ""} {
		checkFile(t, d, name, want)
	}
}

// P5.3

func TestRead(t *testing.T) {
	d := after(put("a", "xy"), save("a"), put("a", "z"), put("b", ""))
	for _, full := range []bool{false, true, true, false} {
		d.Fill(full)
		checkFile(t, d, "a", "xyz")
		checkFile(t, d, "b", "")
		checkRun(t, d, look("c"), api.ErrNone)
		checkFiles(t, d, "a", "b") // it makes none
	}
}

func TestList(t *testing.T) {
	l := []string{"-", "--", "-.", "-0", "-a", ".", ".-", "..", ".0", ".a", "0", "0-", "0a", "1", "10", "2", "9", "a", "a-", "a-1", "a.", "a0", "aa", "b", "wal-1", "wal-10", "wal-2", "z", "zz"}
	r := rand.New(rand.NewSource(5))
	for range 50 {
		d := disk.New()
		for _, i := range r.Perm(len(l)) {
			check(t, l[i], d.Append(l[i], nil), api.OK)
		}
		checkFiles(t, d, l...)
		d.Fill(true)
		checkFiles(t, d, l...)
	}
	var many []string
	d := disk.New()
	for i := 2999; i >= 0; i-- {
		many = append(many, fmt.Sprintf("f%05d", 2999-i))
		check(t, i, d.Append(fmt.Sprintf("f%05d", i), nil), api.OK)
	}
	checkFiles(t, d, many...)
}

// P5.4

// Whatever the changes are, also those that are refused by ErrNone or ErrFull: behind n of them the disk is down.
func TestArm(t *testing.T) {
	for n := range 8 {
		for _, s := range append(changes("a", "b"), changes("none", "b")...) {
			for _, full := range []bool{false, true} {
				d, twin := after(put("a", "xy"), fill(full)), after(put("a", "xy"), fill(full))
				d.Arm(n)
				for i := range n {
					if d.Down() {
						t.Errorf("Arm(%d): down behind %d of %v", n, i, s)
					}
					if a, want := s.run(d), s.run(twin); a != want {
						t.Errorf("Arm(%d): change %d of %v: %s, not %s", n, i, s, a, want)
					}
				}
				if !d.Down() {
					t.Errorf("Arm(%d): up behind %d of %v", n, n, s)
				}
				checkRun(t, d, s, api.ErrDown)
				d.Restart(9, 9)
				twin.Restart(9, 9)
				if state(d) != state(twin) {
					t.Errorf("Arm(%d): %d of %v: there is %s, not %s", n, n, s, state(d), state(twin))
				}
			}
		}
	}
}

// The last change is done.
func TestArmLastChange(t *testing.T) {
	for _, c := range []struct {
		s    step
		want string
	}{
		{put("a", "z"), `"a" "wxyz"`},
		{put("b", "z"), `"a b" "wxy" "z"`},
		{put("b", ""), `"a b" "wxy" ""`},
		{save("a"), `"a" "wxy"`},
		{move("a", "b"), `"b" "wxy"`},
		{move("a", "a"), `"a" "wxy"`},
		{drop("a"), `""`},
		{save("b"), `"a" "wxy"`},
		{drop("b"), `"a" "wxy"`},
		{move("b", "a"), `"a" "wxy"`},
	} {
		d := after(put("a", "wx"), save("a"), put("a", "y"), arm(1))
		c.s.run(d)
		if !d.Down() {
			t.Errorf("%v: up", c.s)
		}
		d.Restart(9, 9)
		got := state(d)
		got = strings.NewReplacer("false ", "", "0 [", "", "]", "").Replace(got)
		if got != c.want {
			t.Errorf("%v: %s, not %s", c.s, got, c.want)
		}
	}
	d := after(put("a", "xy"), arm(1), save("a"), restart()) // a Sync too
	checkFile(t, d, "a", "xy")
	d = after(put("a", "xy"), arm(0), save("a"), restart())
	checkFile(t, d, "a", "")
	d = after(fill(true), put("a", "xy"), arm(1), put("b", "z"), restart())
	checkFiles(t, d)
}

// What isn't a change brings the disk no nearer to going down.
func TestArmCountsChangesAlone(t *testing.T) {
	d := after(put("a", "xy"), arm(2))
	for range 5 {
		for _, s := range []step{look("a"), look("none"), look(""), names(), fill(true), fill(false), put("", "x"), put("A", ""), save("A"), move("a", ""), move("", "a"), drop("_")} {
			s.run(d)
		}
		d.Clone()
		d.Down()
	}
	checkRun(t, d, save("a"), api.OK)
	if d.Down() {
		t.Error("down behind 1 change")
	}
	d.Append("B", nil)
	checkRun(t, d, save("none"), api.ErrNone)
	if !d.Down() {
		t.Error("up behind 2 changes")
	}
}

func TestArmAgain(t *testing.T) {
	for _, c := range []struct {
		arms []int
		left int // changes that are done; below 0: no end
	}{
		{[]int{3}, 3}, {[]int{1}, 1}, {[]int{0}, 0}, {[]int{-1}, -1}, {[]int{math.MinInt}, -1}, {[]int{math.MaxInt}, -1},
		{[]int{3, 5}, 5}, {[]int{5, 3}, 3}, {[]int{3, 0}, 0}, {[]int{3, -1}, -1}, {[]int{3, -2}, -1}, {[]int{1, math.MinInt}, -1}, {[]int{-1, 2}, 2}, {[]int{math.MinInt, 1}, 1}, {[]int{-7, 0}, 0},
		{[]int{0, 3}, 0}, {[]int{0, -1}, 0}, {[]int{0, math.MinInt}, 0}, {[]int{0, 0}, 0}, {[]int{0, math.MaxInt, -1}, 0}, // down it is, and stays
	} {
		d := after(put("a", "xy"))
		for _, n := range c.arms {
			d.Arm(n)
		}
		for i := range 50 {
			want := api.OK
			if c.left >= 0 && i >= c.left {
				want = api.ErrDown
			}
			if d.Down() != (want == api.ErrDown) {
				t.Errorf("%d: Down %t behind %d changes", c.arms, d.Down(), i)
			}
			check(t, c, d.Append("a", nil), want)
		}
	}
	d := after(arm(3), put("a", ""), put("a", ""), arm(3)) // what was done ahead of it doesn't count
	for range 3 {
		checkRun(t, d, save("a"), api.OK)
	}
	checkRun(t, d, save("a"), api.ErrDown)
	d.Arm(5)
	d.Arm(-1)
	checkRun(t, d, save("a"), api.ErrDown) // Arm doesn't bring it up
}

func TestDown(t *testing.T) {
	for _, full := range []bool{false, true} {
		d := after(put("a", "xy"), save("a"), put("a", "z"), fill(full), arm(0))
		for _, s := range append(append(changes("a", "b"), changes("none", "a")...), look("a"), look("none"), names(), move("a", "a"), move("none", "none")) { // ahead of ErrNone and ErrFull
			checkRun(t, d, s, api.ErrDown)
			if !d.Down() {
				t.Errorf("%v: up", s)
			}
		}
		d.Fill(!full)
		checkRun(t, d, put("a", ""), api.ErrDown)
		d.Restart(1)
		checkFiles(t, d, "a") // nothing of it was done
		checkFile(t, d, "a", "xyz")
	}
}

// P5.5

func TestRestart(t *testing.T) {
	for _, c := range []struct {
		keep []int
		want string // of a, b, c and d
	}{
		{nil, "12,,56,"},
		{[]int{}, "12,,56,"},
		{[]int{0, 0, 0, 0}, "12,,56,"},
		{[]int{1}, "123,,56,"},
		{[]int{2}, "1234,,56,"},
		{[]int{3}, "1234,,56,"},
		{[]int{0, 1}, "12,x,56,"},
		{[]int{0, 3}, "12,xyz,56,"},
		{[]int{0, 0, 1}, "12,,56,"},
		{[]int{0, 0, 1, 1}, "12,,56,7"},
		{[]int{1, 2, 3, 4}, "123,xy,56,78"},
		{[]int{1, 2, 3, 4, 5, 6}, "123,xy,56,78"},
		{[]int{-1, 2, -3, 1}, "12,xy,56,7"},
		{[]int{math.MinInt, math.MinInt, math.MinInt, math.MinInt}, "12,,56,"},
		{[]int{math.MaxInt, math.MaxInt, math.MaxInt, math.MaxInt}, "1234,xyz,56,78"},
		{[]int{math.MaxInt - 1, math.MaxInt - 2, math.MaxInt, math.MinInt + 1}, "1234,xyz,56,"},
	} {
		for _, down := range []bool{false, true} {
			d := after(put("d", "78"), put("c", "56"), put("a", "12"), save("a"), put("b", "xyz"), save("c"), put("a", "34"))
			if down {
				d.Arm(0)
			}
			for range 2 { // behind the second one all is as it was: what stays is synced
				d.Restart(c.keep...)
				var l []string
				for _, name := range []string{"a", "b", "c", "d"} {
					b, _ := d.Read(name)
					l = append(l, string(b))
				}
				if got := strings.Join(l, ","); got != c.want {
					t.Errorf("Restart(%d): %s, not %s", c.keep, got, c.want)
				}
				checkFiles(t, d, "a", "b", "c", "d")
			}
			d.Restart()
			if b, _ := d.Read("a"); string(b) != c.want[:strings.Index(c.want, ",")] {
				t.Errorf("Restart(%d), Restart(): %q", c.keep, b)
			}
		}
	}
}

// The numbers are those of the files that are there, in the order of the names that they have.
func TestRestartOrder(t *testing.T) {
	d := after(put("b", "bbb"), put("a", "aaa"), put("-", "---"), put("c", "ccc"), put(".", "..."), put("0", "000"))
	for _, s := range []step{drop("a"), move("b", "z"), move("c", "a")} {
		checkRun(t, d, s, api.OK)
	}
	d.Restart(3, 2, 1, 0, 2)
	for name, want := range map[string]string{"-": "---", ".": "..", "0": "0", "a": "", "z": "bb"} {
		checkFile(t, d, name, want)
	}
}

// What is written behind a crash stands behind what stayed, and is not synced.
func TestRestartAndOn(t *testing.T) {
	d := after(put("a", "12"), save("a"), put("a", "345678"), restart(1))
	checkFile(t, d, "a", "123")
	checkRun(t, d, put("a", "xy"), api.OK)
	checkFile(t, d, "a", "123xy")
	d.Restart(1)
	checkFile(t, d, "a", "123x")
	checkRun(t, d, put("a", "z"), api.OK)
	checkRun(t, d, save("a"), api.OK)
	d.Restart()
	checkFile(t, d, "a", "123xz")
}

func TestRestartBringsUp(t *testing.T) {
	for _, n := range []int{-1, 0, 1, 2, 5} {
		for _, full := range []bool{false, true} {
			d := after(put("a", "xy"), save("a"), fill(full), arm(n), save("a"), restart())
			if d.Down() {
				t.Errorf("Arm(%d), Restart: down", n)
			}
			for range 20 { // neither full nor armed
				check(t, n, d.Append("a", []byte("z")), api.OK)
			}
			checkFile(t, d, "a", "xy"+strings.Repeat("z", 20))
			d.Arm(1) // it can be armed again
			check(t, n, d.Append("a", nil), api.OK)
			check(t, n, d.Append("a", nil), api.ErrDown)
		}
	}
	d := disk.New()
	d.Restart(1, 2, 3)
	checkFiles(t, d)
	d = after(arm(0), fill(true), restart()) // what is said of a disk that is down ends too
	checkRun(t, d, put("a", ""), api.OK)
}

// P5.6

func TestClone(t *testing.T) {
	for _, n := range []int{-1, 0, 1, 3} {
		for _, full := range []bool{false, true} {
			d := after(put("a", "xy"), save("a"), put("a", "z"), put("b", ""), fill(full), arm(n))
			c := d.Clone()
			if c == nil || c == d || state(c) != state(d) {
				t.Fatalf("Clone: %s, not %s", state(c), state(d))
			}
			for i := range 5 { // full and armed alike
				s := put("a", fmt.Sprint(i))
				if a, want := s.run(c), s.run(d); a != want || c.Down() != d.Down() {
					t.Errorf("Clone: change %d: %s, not %s", i, a, want)
				}
			}
			c.Restart(2)
			d.Restart(2)
			if state(c) != state(d) {
				t.Errorf("Clone: %s, not %s", state(c), state(d))
			}
		}
	}
	if c := disk.New().Clone(); c == nil || state(c) != state(disk.New()) {
		t.Error("Clone of a new disk")
	}
}

// What is done to one of the two isn't done to the other.
func TestCloneIsItsOwn(t *testing.T) {
	r := rand.New(rand.NewSource(7))
	steps := []step{put("a", "12345678"), put("a", "Z"), put("b", "new"), save("a"), move("a", "b"), move("b", "a"), drop("a"), drop("b"), fill(true), fill(false), arm(0), arm(1), arm(2), restart(), restart(1, 1), put("a", "")}
	for range 3000 {
		base := []step{put("a", "xyz"[:r.Intn(4)]), save("a"), put("a", "more"), put("b", "x"), restart(r.Intn(6), r.Intn(2)), arm(r.Intn(9) - 5)} // a crash leaves room behind what is there
		d, control := after(base...), after(base...)
		other, still := d.Clone(), d
		if r.Intn(2) == 0 {
			other, still = d, other
		}
		for range 1 + r.Intn(6) {
			steps[r.Intn(len(steps))].run(other)
		}
		for i := range 7 {
			if state(still) != state(control) {
				t.Fatalf("Clone: %s, not %s", state(still), state(control))
			}
			s := put("a", fmt.Sprint(i))
			s.run(still)
			s.run(control)
			for range r.Intn(3) {
				put("a", "!").run(other)
			}
		}
		still.Restart(2)
		control.Restart(2)
		if state(still) != state(control) {
			t.Fatalf("Clone, Restart: %s, not %s", state(still), state(control))
		}
	}
}

// The room behind what is there is of each disk's own too.
func TestCloneWithRoom(t *testing.T) {
	d := after(put("a", "xy"), save("a"), put("a", "12345678"), restart(1))
	c := d.Clone()
	checkRun(t, d, put("a", "left"), api.OK)
	checkRun(t, c, put("a", "right"), api.OK)
	checkFile(t, d, "a", "xy1left")
	checkFile(t, c, "a", "xy1right")
	checkRun(t, d, put("a", "er"), api.OK)
	checkFile(t, c, "a", "xy1right")
	checkFile(t, d, "a", "xy1lefter")
}

func TestNil(t *testing.T) {
	var d *disk.Disk
	for _, name := range []string{"a", "", "A", strings.Repeat("a", 33)} { // ahead of ErrArg
		for _, s := range append(named(name), names()) {
			checkRun(t, d, s, api.ErrNil)
		}
	}
	d.Fill(true)
	d.Fill(false)
	for _, n := range []int{0, 1, -1, math.MinInt, math.MaxInt} {
		d.Arm(n)
		if d.Down() {
			t.Error("nil: down")
		}
	}
	d.Restart()
	d.Restart(1, -1)
	if d.Clone() != nil {
		t.Error("nil: Clone isn't nil")
	}
	if b, e := d.Read("a"); b != nil || e != api.ErrNil {
		t.Errorf("nil: Read: %q, %d", b, e)
	}
}

// Beside an error every other result is its zero value.
func TestErrorsAlone(t *testing.T) {
	down := after(put("a", "xy"), arm(0))
	for _, c := range []struct {
		d    *disk.Disk
		name string
		e    api.Errno
	}{
		{down, "a", api.ErrDown}, {down, "b", api.ErrDown}, {down, "A", api.ErrArg}, {after(put("a", "xy")), "b", api.ErrNone}, {after(put("a", "xy")), "", api.ErrArg},
	} {
		if b, e := c.d.Read(c.name); len(b) != 0 || e != c.e {
			t.Errorf("Read(%q): %q, %d, not %d", c.name, b, e, c.e)
		}
	}
	if l, e := down.List(); len(l) != 0 || e != api.ErrDown {
		t.Errorf("List: %q, %d", l, e)
	}
}

// What is handed in stays, its spare room too, and isn't kept.
func TestHandedIn(t *testing.T) {
	room := []byte("xyzspare room")
	was := string(room)
	d := disk.New()
	for range 3 {
		check(t, "Append", d.Append("a", room[:3]), api.OK)
	}
	check(t, "Append", d.Append("b", room[:3]), api.OK)
	check(t, "Append", d.Append("b", []byte("12345")), api.OK)
	c := d.Clone()
	if string(room) != was {
		t.Errorf("Append: %q, not %q", room, was)
	}
	for i := range room {
		room[i] = '!'
	}
	for _, d := range []*disk.Disk{d, c} {
		checkFile(t, d, "a", "xyzxyzxyz")
		checkFile(t, d, "b", "xyz12345")
	}
	keep := []int{1, -1, math.MaxInt, 7}
	d.Restart(keep[:2]...)
	if !slices.Equal(keep, []int{1, -1, math.MaxInt, 7}) {
		t.Errorf("Restart: %d", keep)
	}
}

// What is answered is new memory, its spare room too.
func TestAnsweredIsNew(t *testing.T) {
	d := after(put("a", "xyz"), put("a", "1"), put("b", "q"), put("c", "12345678"), restart(4, 1, 2))
	for range 2 {
		for _, name := range []string{"a", "b", "c"} {
			b, _ := d.Read(name)
			more, _ := d.Read(name)
			want := string(more)
			b = b[:cap(b)]
			for i := range b {
				b[i] = '!'
			}
			if string(more) != want {
				t.Errorf("Read(%q): two answers share memory", name)
			}
			checkFile(t, d, name, want)
			check(t, name, d.Append(name, []byte("+")), api.OK)
			checkFile(t, d, name, want+"+")
			if string(more) != want || strings.Trim(string(b), "!") != "" {
				t.Errorf("Read(%q): the answer changes behind it", name)
			}
		}
		l, _ := d.List()
		more, _ := d.List()
		l = l[:cap(l)]
		for i := range l {
			l[i] = "changed"
		}
		if !slices.Equal(more, []string{"a", "b", "c"}) {
			t.Errorf("List: two answers share memory: %q", more)
		}
		checkFiles(t, d, "a", "b", "c")
	}
}

// A disk hangs on its own calls alone: many at once, each with its own, answer as one does; and reading changes nothing.
func TestManyDisks(t *testing.T) {
	shared := after(put("a", "xyz"), save("a"), put("b", "1"))
	was := state(shared)
	var wait sync.WaitGroup
	for range 8 {
		wait.Go(func() {
			r := rand.New(rand.NewSource(3))
			for range 200 {
				if why := differ(script(r, 30)); why != "" {
					t.Error(why)
				}
				if state(shared) != was || state(shared.Clone()) != was {
					t.Error("reading changes the disk")
				}
			}
		})
	}
	wait.Wait()
}

// The whole, by the chapter's words

// script answers n steps.
func script(r *rand.Rand, n int) []step {
	l := []string{"a", "a", "b", "b", "c", "-", "x.y", "0", "A", "", strings.Repeat("z", 32), strings.Repeat("z", 33)}
	data := []string{"", "1", "23", "456", "7890abcdefghijklmnop", "\x00\xff"}
	var steps []step
	for range n {
		s := step{kind: r.Intn(doRead), name: l[r.Intn(len(l))], to: l[r.Intn(len(l))], data: data[r.Intn(len(data))]}
		switch r.Intn(12) {
		case 0:
			s = fill(r.Intn(3) == 0)
		case 1:
			s = arm(r.Intn(12) - 2)
		case 2, 3:
			keep := make([]int, r.Intn(8))
			for i := range keep {
				keep[i] = r.Intn(8) - 1
			}
			s = restart(keep...)
		case 4:
			s = look(l[r.Intn(len(l))])
		case 5:
			s = put(l[r.Intn(4)], data[r.Intn(len(data))])
		}
		steps = append(steps, s)
	}
	return steps
}

func TestLongScripts(t *testing.T) {
	r := rand.New(rand.NewSource(1))
	for range 3000 {
		if why := differ(script(r, 5+r.Intn(80))); why != "" {
			t.Fatal(why)
		}
	}
}

// All scripts of four of these steps.
func TestShortScripts(t *testing.T) {
	steps := []step{
		put("a", "12"), put("a", ""), put("b", "3"), save("a"), save("b"), move("a", "b"), move("b", "a"), move("a", "a"), move("a", "c"), drop("a"), drop("b"),
		fill(true), fill(false), arm(0), arm(1), arm(2), arm(-1), restart(), restart(1), restart(0, 1), restart(9, 9, 9), put("A", "x"),
	}
	var row [4]step
	var try func(n int)
	try = func(n int) {
		if n == len(row) {
			if why := differ(row[:]); why != "" && !t.Failed() {
				t.Error(why)
			}
			return
		}
		for _, s := range steps {
			row[n] = s
			try(n + 1)
		}
	}
	try(0)
}

// The chapter's examples

func TestExamples(t *testing.T) {
	d := after(put("a", "xy"), save("a"), put("a", "z"))
	checkFile(t, d, "a", "xyz")
	c := d.Clone()
	d.Restart()
	checkFile(t, d, "a", "xy")
	c.Restart(1)
	checkFile(t, c, "a", "xyz")
	d.Arm(1)
	checkRun(t, d, put("b", ""), api.OK)
	if !d.Down() {
		t.Error("Down: false")
	}
	checkRun(t, d, look("b"), api.ErrDown)
	c.Fill(true)
	checkRun(t, c, put("a", ""), api.ErrFull)
	checkRun(t, c, save("a"), api.OK)
	checkRun(t, c, move("a", "b"), api.OK)
	checkFile(t, c, "b", "xyz")
	checkRun(t, c, put("A", ""), api.ErrArg)
}
