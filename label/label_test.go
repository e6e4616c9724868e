package label_test

import (
	"math/rand"
	"regexp"
	"slices"
	"strings"
	"sync"
	"testing"
	"unicode/utf8"
	"unsafe"

	"garner/api"
	"garner/label"
)

// The model: the chapter's words, without the program's calls.

var nameForm = regexp.MustCompile(`\A[a-z_][a-z0-9_]{0,31}\z`)

// faultOf answers what is wrong with a label by itself.
func faultOf(x api.Label) api.Errno {
	switch {
	case !nameForm.MatchString(x.Name):
		return api.ErrForm
	case len(x.Value) > 256:
		return api.ErrLong
	case !utf8.ValidString(x.Value):
		return api.ErrUtf
	}
	return 0
}

// canonOf answers what the model says of Canon(l): it lays one label behind the other where it belongs.
func canonOf(l []api.Label) ([]api.Label, api.Errno) {
	if len(l) > 16 {
		return nil, api.ErrMany
	}
	for _, x := range l {
		if e := faultOf(x); e != 0 {
			return nil, e
		}
	}
	var sorted []api.Label
	for _, x := range l {
		at := 0
		for at < len(sorted) && sorted[at].Name < x.Name {
			at++
		}
		if at < len(sorted) && sorted[at].Name == x.Name {
			return nil, api.ErrForm
		}
		sorted = slices.Insert(sorted, at, x)
	}
	return sorted, 0
}

var (
	quoting   = strings.NewReplacer(`"`, `\"`, `\`, `\\`, "\n", `\n`)
	unquoting = strings.NewReplacer(`\"`, `"`, `\\`, `\`, `\n`, "\n")
)

// quoted answers what stands in the quotes for a value.
func quoted(value string) string {
	return quoting.Replace(value)
}

// textOf answers the text of l.
func textOf(l []api.Label) string {
	var parts []string
	for _, x := range l {
		parts = append(parts, x.Name+`="`+quoted(x.Value)+`"`)
	}
	return "{" + strings.Join(parts, ",") + "}"
}

// unquoted answers the value for which s stands in the quotes; false, if it stands there for none.
func unquoted(s string) (string, bool) {
	value := unquoting.Replace(s)
	return value, quoted(value) == s
}

// partings answers all lists of labels, one at least, whose texts with commas between them and a brace behind them are s: each place is tried for each end.
func partings(s string) [][]api.Label {
	var all [][]api.Label
	for i := range len(s) {
		if !strings.HasPrefix(s[i:], `="`) || strings.Contains(s[:i], `="`) || strings.Contains(s[:i], " ") {
			continue
		}
		for j := i + 2; j < len(s); j++ {
			value, ok := unquoted(s[i+2 : j])
			if s[j] != '"' || !ok {
				continue
			}
			x := api.Label{Name: s[:i], Value: value}
			if s[j+1:] == "}" {
				all = append(all, []api.Label{x})
			}
			if strings.HasPrefix(s[j+1:], ",") {
				for _, l := range partings(s[j+2:]) {
					all = append(all, slices.Insert(l, 0, x))
				}
			}
		}
	}
	return all
}

// readOf answers what the model says of Read(s), and whether s is a text at all.
func readOf(t *testing.T, s string) ([]api.Label, api.Errno, bool) {
	t.Helper()
	if s == "{}" {
		return nil, 0, true
	}
	if !strings.HasPrefix(s, "{") {
		return nil, api.ErrForm, false
	}
	all := partings(s[1:])
	if len(all) > 1 {
		t.Fatalf("%q is the text of %d lists", s, len(all))
	}
	if len(all) == 0 {
		return nil, api.ErrForm, false
	}
	l, e := canonOf(all[0])
	if e == 0 && !slices.Equal(l, all[0]) {
		return nil, api.ErrForm, true
	}
	return l, e, true
}

// checkCanon holds Canon(l) against what is wanted.
func checkCanon(t *testing.T, l, want []api.Label, fault api.Errno) {
	t.Helper()
	ahead := slices.Clone(l)
	got, e := label.Canon(l)
	if e != fault || !slices.Equal(got, want) {
		t.Errorf("Canon(%q): %q, %d, not %q, %d", l, got, e, want, fault)
	}
	if !slices.Equal(l, ahead) {
		t.Errorf("Canon changed %q to %q", ahead, l)
	}
}

// checkFault holds Canon(l) against an error.
func checkFault(t *testing.T, l []api.Label, fault api.Errno) {
	t.Helper()
	checkCanon(t, l, nil, fault)
}

// checkRead holds Read(s) against what is wanted.
func checkRead(t *testing.T, s string, want []api.Label, fault api.Errno) {
	t.Helper()
	got, e := label.Read(s)
	if e != fault || !slices.Equal(got, want) {
		t.Errorf("Read(%q): %q, %d, not %q, %d", s, got, e, want, fault)
	}
}

// checkText holds Read(s) against the model, and Write against what was read; it tells whether there was something to read.
func checkText(t *testing.T, s string) bool {
	t.Helper()
	want, fault, _ := readOf(t, s)
	checkRead(t, s, want, fault)
	if w := label.Write(want); fault == 0 && w != s {
		t.Errorf("Write(%q): %q, not %q", want, w, s)
	}
	return fault == 0
}

// one answers a list of one label.
func one(name, value string) []api.Label {
	return []api.Label{{Name: name, Value: value}}
}

// listOf answers labels of names and values in turn.
func listOf(texts ...string) []api.Label {
	var l []api.Label
	for i := 0; i < len(texts); i += 2 {
		l = append(l, api.Label{Name: texts[i], Value: texts[i+1]})
	}
	return l
}

// many answers n labels in canonical order.
func many(n int) []api.Label {
	var l []api.Label
	for i := range n {
		l = append(l, api.Label{Name: "n" + string(rune('a'+i/26)) + string(rune('a'+i%26)), Value: "v"})
	}
	return l
}

// orders calls f with l in each of its orders.
func orders(l []api.Label, f func(l []api.Label)) {
	l = slices.Clone(l)
	var lay func(at int)
	lay = func(at int) {
		if at == len(l) {
			f(l)
			return
		}
		for i := at; i < len(l); i++ {
			l[at], l[i] = l[i], l[at]
			lay(at + 1)
			l[at], l[i] = l[i], l[at]
		}
	}
	lay(0)
}

// noise answers lists from a fixed seed, some of them with faults.
func noise(n int) [][]api.Label {
	r := rand.New(rand.NewSource(8))
	names := strings.Fields("a b c ab a_ a1 _ __ _1 app env host z zz " + strings.Repeat("n", 32))
	values := []string{"", "1", "2", "web", "x\"y", "\\", "\n", "\\n", "a=\"b\",c", "{}", " ", "\u00e9", "\u4e16\u754c", "\x00", strings.Repeat("v", 256), strings.Repeat("\"", 256)}
	bad := []api.Label{{Name: "A"}, {Name: "1a"}, {Name: ""}, {Name: "a-b"}, {Name: "b=c"}, {Name: "\xff"}, {Name: strings.Repeat("n", 33)}, {Name: "u", Value: "\xff"}, {Name: "v", Value: strings.Repeat("v", 257)}, {Name: "w", Value: strings.Repeat("\xff", 257)}, {Name: "A", Value: strings.Repeat("\xff", 257)}}
	lists := make([][]api.Label, n)
	for i := range lists {
		picked := r.Perm(len(names))[:r.Intn(len(names)+1)]
		if r.Intn(3) == 0 {
			slices.Sort(picked)
		}
		for _, k := range picked {
			lists[i] = append(lists[i], api.Label{Name: names[k], Value: values[r.Intn(len(values))]})
		}
		switch r.Intn(4) {
		case 0:
			for range 1 + r.Intn(4) {
				lists[i] = slices.Insert(lists[i], r.Intn(len(lists[i])+1), bad[r.Intn(len(bad))])
			}
		case 1:
			if len(lists[i]) > 0 { // two of one name
				x := lists[i][r.Intn(len(lists[i]))]
				x.Value = values[r.Intn(len(values))]
				lists[i] = slices.Insert(lists[i], r.Intn(len(lists[i])+1), x)
			}
		}
	}
	return lists
}

// P8.1

func TestCanonOrder(t *testing.T) {
	checkCanon(t, nil, nil, 0)
	checkCanon(t, []api.Label{}, nil, 0)
	checkCanon(t, listOf("b", "2", "a", "1"), listOf("a", "1", "b", "2"), 0)
	for _, l := range [][]api.Label{
		listOf("a", "9"),
		listOf("a", "", "b", ""),
		listOf("a", "2", "b", "1"), // by their names, whatever the values
		listOf("_", "1", "a", "1", "a1", "1", "a_", "1", "aa", "1"),
		listOf("a", "1", "ab", "1", "abc", "1", "b", "1"),
		listOf("_", "x", "__", "x", "a", "x", "a0", "x", "a9", "x", "z", "x"),
	} {
		orders(l, func(mixed []api.Label) { checkCanon(t, mixed, l, 0) })
	}
}

func TestCanonNames(t *testing.T) {
	for _, c := range []struct {
		name string
		want api.Errno
	}{
		{"a", 0}, {"z", 0}, {"_", 0}, {"a1_", 0}, {"_9", 0}, {"app", 0}, {"user_id", 0}, {"z0z", 0},
		{strings.Repeat("a", 31), 0}, {strings.Repeat("a", 32), 0}, {"a" + strings.Repeat("9", 31), 0},
		{"", api.ErrForm}, {"A", api.ErrForm}, {"1", api.ErrForm}, {"1a", api.ErrForm}, {"aA", api.ErrForm}, {"a-b", api.ErrForm},
		{"a b", api.ErrForm}, {" a", api.ErrForm}, {"a ", api.ErrForm}, {"a\n", api.ErrForm}, {"a\x00", api.ErrForm}, {"a=", api.ErrForm},
		{"\u00e9", api.ErrForm}, {"a\u0663", api.ErrForm}, {"a\xff", api.ErrForm},
		{strings.Repeat("a", 33), api.ErrForm}, {strings.Repeat("a", 1<<16), api.ErrForm},
	} {
		want := one(c.name, "v")
		if c.want != 0 {
			want = nil
		}
		checkCanon(t, one(c.name, "v"), want, c.want)
	}
}

func TestCanonEachByteOfAName(t *testing.T) {
	for c := range 256 {
		b := string([]byte{byte(c)})
		for _, name := range []string{b, b + "a", "a" + b, "a" + b + "a", strings.Repeat("a", 31) + b, strings.Repeat("a", 32) + b, b + strings.Repeat("a", 31)} {
			want, fault := canonOf(one(name, ""))
			checkCanon(t, one(name, ""), want, fault)
		}
	}
}

func TestCanonValues(t *testing.T) {
	for _, v := range []string{"", " ", "\"", "\\", "\n", "\x00", "\x7f", "\u00e9", "\ufffd", "\U0010ffff", "1", "A", "{a=\"1\"}", strings.Repeat("v", 255), strings.Repeat("v", 256), strings.Repeat("\u00e9", 128), strings.Repeat("\U0001f600", 64)} {
		checkCanon(t, one("a", v), one("a", v), 0)
	}
	for _, v := range []string{strings.Repeat("v", 257), strings.Repeat("\u00e9", 129), strings.Repeat("v", 255) + "\u00e9", strings.Repeat("v", 1<<16), strings.Repeat("\xff", 257), strings.Repeat("v", 256) + "\xff"} {
		checkFault(t, one("a", v), api.ErrLong)
	}
	for _, v := range []string{"\xff", "\x80", "a\xc3", "\xc0\x80", "\xed\xa0\x80", "\xf4\x90\x80\x80", strings.Repeat("\xff", 256), strings.Repeat("v", 255) + "\xc3"} {
		checkFault(t, one("a", v), api.ErrUtf)
	}
}

func TestCanonTwoOfOneName(t *testing.T) {
	checkFault(t, listOf("a", "1", "a", "2"), api.ErrForm)
	checkFault(t, listOf("a", "1", "a", "1"), api.ErrForm)
	orders(listOf("a", "1", "b", "2", "c", "3", "b", "4"), func(l []api.Label) { checkFault(t, l, api.ErrForm) })
	for i := range 16 {
		l := many(16)
		for j := range i {
			twin := slices.Clone(l)
			twin[i].Name = twin[j].Name
			checkFault(t, twin, api.ErrForm)
		}
	}
}

func TestCanonMany(t *testing.T) {
	for _, n := range []int{15, 16} {
		l := many(n)
		mixed := slices.Clone(l)
		slices.Reverse(mixed)
		checkCanon(t, l, l, 0)
		checkCanon(t, mixed, l, 0)
	}
	for _, n := range []int{17, 18, 32, 100} {
		checkFault(t, many(n), api.ErrMany)
		checkFault(t, make([]api.Label, n), api.ErrMany) // whatever else is wrong
	}
	checkFault(t, make([]api.Label, 1<<20), api.ErrMany)
	checkFault(t, make([]api.Label, 16), api.ErrForm)
}

func TestCanonErrorsInOrder(t *testing.T) {
	long, broken := strings.Repeat("v", 257), strings.Repeat("\xff", 257)
	for _, c := range []struct {
		l    []api.Label
		want api.Errno
	}{
		{listOf("A", broken), api.ErrForm},
		{listOf("a", broken), api.ErrLong},
		{listOf("A", "\xff"), api.ErrForm},
		{listOf("a", "\xff", "A", ""), api.ErrUtf}, // label by label
		{listOf("A", "", "a", "\xff"), api.ErrForm},
		{listOf("a", long, "A", ""), api.ErrLong},
		{listOf("a", "\xff", "b", long), api.ErrUtf},
		{listOf("a", long, "b", "\xff"), api.ErrLong},
		{listOf("b", "\xff", "a", long), api.ErrUtf}, // in the order in which they were handed in
		{listOf("b", long, "a", "\xff"), api.ErrLong},
		{listOf("a", "1", "a", "\xff"), api.ErrUtf}, // that two have one name is told last
		{listOf("a", "1", "a", long), api.ErrLong},
		{listOf("a", "1", "a", "2", "b", "\xff"), api.ErrUtf},
		{listOf("a", "1", "a", "2", "b", long), api.ErrLong},
		{append(many(16), one("a", "\xff")...), api.ErrMany},
		{append(one("a", "\xff"), many(16)...), api.ErrMany},
	} {
		checkFault(t, c.l, c.want)
	}
}

func TestCanonOfNoise(t *testing.T) {
	count := map[api.Errno]int{}
	for _, l := range noise(20000) {
		want, fault := canonOf(l)
		checkCanon(t, l, want, fault)
		count[fault]++
	}
	for _, e := range []api.Errno{0, api.ErrMany, api.ErrLong, api.ErrForm, api.ErrUtf} {
		if count[e] < 100 {
			t.Errorf("%d lists of error %d: too few", count[e], e)
		}
	}
}

// P8.2

func TestFind(t *testing.T) {
	l := listOf("a", "1", "b", "2", "c", "", "b", "3", "", "none", "A", "\xff")
	for _, c := range []struct {
		name, value string
		ok          bool
	}{
		{"a", "1", true},
		{"b", "2", true}, // the first
		{"c", "", true},
		{"", "none", true},
		{"A", "\xff", true},
		{"d", "", false},
		{"B", "", false},
		{"aa", "", false},
		{"1", "", false},
		{"a\x00", "", false},
		{"\xff", "", false},
	} {
		if v, ok := label.Find(l, c.name); v != c.value || ok != c.ok {
			t.Errorf("Find(%q): %q, %t", c.name, v, ok)
		}
	}
	for _, name := range []string{"", "a"} {
		if v, ok := label.Find(nil, name); v != "" || ok {
			t.Errorf("Find(nil, %q): %q, %t", name, v, ok)
		}
	}
	for _, l := range [][]api.Label{listOf("b", "2", "a", "1"), listOf("z", "", "b", "2"), many(100)} { // in any order, and in any number
		for _, x := range l {
			if v, ok := label.Find(l, x.Name); v != x.Value || !ok {
				t.Errorf("Find(%q, %q): %q, %t", l, x.Name, v, ok)
			}
		}
	}
}

// rising are lists, each lesser than the one behind it.
func rising() [][]api.Label {
	return [][]api.Label{
		nil,
		listOf("", ""),
		listOf("", "", "", ""),
		listOf("", "b"),
		listOf("A", "\xff"),
		listOf("_", "1"),
		listOf("a", ""),
		listOf("a", "", "z", "9"),
		listOf("a", "\x00"),
		listOf("a", "1"),
		listOf("a", "1", "a", "0"),
		listOf("a", "1", "b", "0"),
		listOf("a", "1", "b", "2"),
		listOf("a", "1", "b", "2", "c", "3"),
		listOf("a", "1", "c", ""),
		listOf("a", "10"),
		listOf("a", "2"),
		listOf("a", "2", "a", "1"),
		listOf("a", "\uffff"), // by their bytes
		listOf("a", "\U00010000"),
		listOf("a", "\xff"),
		listOf("a\x00", ""),
		listOf("a1", "z"),
		listOf("ab", ""),
		listOf("b", "1"),
		listOf("b", "1", "a", "1"),
		listOf("\u00e9", ""),
		listOf("\xff", ""),
	}
}

func TestCompare(t *testing.T) {
	l := rising()
	for i, a := range l {
		for j, b := range l {
			want := 0
			if i < j {
				want = -1
			} else if i > j {
				want = 1
			}
			if c := label.Compare(a, slices.Clone(b)); c != want {
				t.Errorf("Compare(%q, %q): %d, not %d", a, b, c, want)
			}
		}
	}
	if label.Compare(nil, []api.Label{}) != 0 || label.Compare([]api.Label{}, nil) != 0 {
		t.Error("an empty list isn't a nil one")
	}
	long := many(1 << 12)
	if label.Compare(long, slices.Clone(long)) != 0 || label.Compare(long, long[:len(long)-1]) != 1 || label.Compare(long[:len(long)-1], long) != -1 {
		t.Error("Compare of long lists")
	}
}

// P8.3

func TestWrite(t *testing.T) {
	for _, c := range []struct {
		l    []api.Label
		want string
	}{
		{nil, `{}`},
		{[]api.Label{}, `{}`},
		{one("a", ""), `{a=""}`},
		{one("a", "1"), `{a="1"}`},
		{one("a", `x"y`), `{a="x\"y"}`},
		{one("a", `x\y`), `{a="x\\y"}`},
		{one("a", "x\ny"), `{a="x\ny"}`},
		{one("a", `\n`), `{a="\\n"}`},
		{one("a", `"`), `{a="\""}`},
		{one("a", `\"`), `{a="\\\""}`},
		{one("a", "\"\\\n\n\\\""), `{a="\"\\\n\n\\\""}`},
		{one("a", "\r\t\x00\x7f\u00e9\u4e16"), "{a=\"\r\t\x00\x7f\u00e9\u4e16\"}"}, // all else stands as it is
		{one("a", "{},=' "), `{a="{},=' "}`},
		{listOf("a", "1", "b", "2"), `{a="1",b="2"}`},
		{listOf("b", "2", "a", "1"), `{b="2",a="1"}`}, // whatever is in it
		{listOf("a", "1", "a", "1"), `{a="1",a="1"}`},
		{one("", ""), `{=""}`},
		{listOf("", "", "", ""), `{="",=""}`},
		{one("A b", "\xff"), "{A b=\"\xff\"}"},
		{one("a\"\\\n", "1"), "{a\"\\\n=\"1\"}"}, // a name has no escapes
		{one("a=\"x", "\xc3"), "{a=\"x=\"\xc3\"}"},
	} {
		if s := label.Write(c.l); s != c.want {
			t.Errorf("Write(%q): %q, not %q", c.l, s, c.want)
		}
	}
	for c := range 256 {
		b := string([]byte{byte(c)})
		for _, l := range [][]api.Label{one("a", b), one("a", "x"+b+"y"), one("a", b+b), one(b, ""), one("n"+b, b)} {
			if s := label.Write(l); s != textOf(l) {
				t.Errorf("Write(%q): %q, not %q", l, s, textOf(l))
			}
		}
	}
	for _, l := range append(noise(5000), many(100)) {
		if s := label.Write(l); s != textOf(l) {
			t.Errorf("Write(%q): %q, not %q", l, s, textOf(l))
		}
	}
}

func TestRead(t *testing.T) {
	for _, c := range []struct {
		s    string
		want []api.Label
	}{
		{`{}`, nil},
		{`{a=""}`, one("a", "")},
		{`{a="1",b="2"}`, listOf("a", "1", "b", "2")},
		{`{a="x\"y"}`, one("a", `x"y`)},
		{`{a="x\\y"}`, one("a", `x\y`)},
		{`{a="x\ny"}`, one("a", "x\ny")},
		{`{a="\\n"}`, one("a", `\n`)},
		{`{a="\\"}`, one("a", `\`)},
		{`{a="\\\\\"\n"}`, one("a", "\\\\\"\n")},
		{`{a=" 1 "}`, one("a", " 1 ")}, // a space in the quotes
		{`{a="{b=\"1\",c=\"2\"}"}`, one("a", `{b="1",c="2"}`)},
		{`{a="}",b=","}`, listOf("a", "}", "b", ",")},
		{"{a=\"\r\t\x00\u00e9\"}", one("a", "\r\t\x00\u00e9")},
		{`{_="1",a1_="2"}`, listOf("_", "1", "a1_", "2")},
		{textOf(many(16)), many(16)},
		{textOf(one(strings.Repeat("n", 32), strings.Repeat("\n", 256))), one(strings.Repeat("n", 32), strings.Repeat("\n", 256))},
	} {
		checkRead(t, c.s, c.want, 0)
	}
}

func TestReadOfWhatIsNoText(t *testing.T) {
	for _, s := range []string{
		``, `{`, `}`, `a`, `a="1"`, `{a="1"`, `a="1"}`, `{{}`, `{}}`, `{}x`, ` {}`, `{} `, "{}\n", `{}{}`, `{,}`, `{a}`, `{a=}`, `{a="}`, `{a=1}`, `{a='1'}`, `{a:"1"}`,
		`{a="1"}x`, `{a="1"}}`, `{a="1"},`, `{a="1"} `, `{a="1",}`, `{,a="1"}`, `{a="1",,b="2"}`, `{a="1"b="2"}`, `{a="1";b="2"}`, `[a="1"]`, `{a="1"]`, `{a=""1"}`, `{a="1""}`,
		`{a="1", b="2"}`, `{a="1" ,b="2"}`, `{ a="1"}`, `{a="1" }`, `{a ="1"}`, `{a= "1"}`, `{ }`, `{a="1",b="2" }`,
		`{a="\q"}`, `{a="\a"}`, `{a="\t"}`, `{a="\r"}`, `{a="\N"}`, `{a="\0"}`, `{a="\x41"}`, `{a="\u0041"}`, `{a="\'"}`, `{a="\/"}`, `{a="\ "}`, `{a="\`, `{a="\"`, `{a="\"}`, `{a="\\\"}`,
		"{a=\"\n\"}", "{a=\"x\ny\"}", "{a=\"\\\n\"}", // a line feed is an escape
		`{b="2",a="1"}`, `{a="1",a="1"}`, `{a="1",a="2"}`, `{a="1",c="1",b="1"}`, // not in canonical order
		`{A="1"}`, `{="1"}`, `{1="1"}`, `{a=="1"}`, `{a"="1"}`, `{}="1"}`, `{a="1",="1"}`, `{a="1",,="1"}`, // names that are none
		textOf(one(strings.Repeat("n", 33), "")),
	} {
		checkRead(t, s, nil, api.ErrForm)
	}
}

func TestReadErrorsInOrder(t *testing.T) {
	long := strings.Repeat("v", 257)
	for _, c := range []struct {
		s    string
		want api.Errno
	}{
		{textOf(many(17)), api.ErrMany},
		{textOf(make([]api.Label, 17)), api.ErrMany},
		{textOf(append(many(16), one("a", long)...)), api.ErrMany},
		{textOf(one("a", long)), api.ErrLong},
		{textOf(one("a", strings.Repeat("\n", 257))), api.ErrLong}, // of the value, not of what is in the quotes
		{textOf(one("a", "\xff")), api.ErrUtf},
		{"{a=\"\xc3\\n\"}", api.ErrUtf},
		{textOf(one("a", strings.Repeat("\xff", 257))), api.ErrLong},
		{textOf(listOf("a", "\xff", "b", long)), api.ErrUtf},
		{textOf(listOf("a", long, "b", "\xff")), api.ErrLong},
		{textOf(listOf("b", "\xff", "a", "1")), api.ErrUtf}, // the order is told behind Canon's errors
		{textOf(listOf("b", long, "a", "1")), api.ErrLong},
		{textOf(listOf("a", "1", "a", "\xff")), api.ErrUtf},
		{textOf(listOf("a", long, "A", "1")), api.ErrLong},
		{textOf(listOf("A", "1", "a", long)), api.ErrForm},
		// Names that are none, but have no =" in them and no space: there is a text, and the label ahead of them tells its error.
		{textOf(listOf("a", long, "", "")), api.ErrLong},
		{textOf(listOf("a", long, "}", "")), api.ErrLong},
		{textOf(listOf("a", long, ",", "")), api.ErrLong},
		{textOf(listOf("a", long, "b=", "")), api.ErrLong},
		{textOf(listOf("a", long, "\"", "")), api.ErrLong},
		{textOf(listOf("a", long, "\\", "")), api.ErrLong},
		{textOf(listOf("a", long, "\n", "")), api.ErrLong},
		{textOf(listOf("a", long, "\xff", "")), api.ErrLong},
		// Of what is no text ErrForm is told, whatever else is wrong.
		{textOf(many(17)) + "x", api.ErrForm},
		{strings.TrimSuffix(textOf(many(17)), "}"), api.ErrForm},
		{strings.TrimSuffix(textOf(many(100)), `"}`), api.ErrForm},
		{strings.ReplaceAll(textOf(many(17)), ",", ", "), api.ErrForm},
		{textOf(many(16)) + textOf(many(16)), api.ErrForm},
		{`{a="` + long + `\q"}`, api.ErrForm},
		{`{a="` + long, api.ErrForm},
		{`{a="` + long + `", b="1"}`, api.ErrForm},
		{`{a="` + long + `" }`, api.ErrForm},
		{`{a="` + long + `",b="1}`, api.ErrForm},
		{"{a=\"\xff\"", api.ErrForm},
		{"{a=\"\xff\n\"}", api.ErrForm},
		{"{a=\"\xff\",b=\"\\t\"}", api.ErrForm},
	} {
		checkRead(t, c.s, nil, c.want)
	}
}

func TestReadOfShortRows(t *testing.T) {
	pieces := []string{"{", "}", ",", "=", `="`, `"`, "a", "b", "n", `\`, " ", "\n", "\xff", "A"}
	held := 0
	var lay func(s string, left int)
	lay = func(s string, left int) {
		for _, x := range []string{s, "{" + s + "}", `{a="` + s + `"}`, `{a="1",` + s + `"}`} {
			if checkText(t, x) {
				held++
			}
		}
		if left > 0 {
			for _, p := range pieces {
				lay(s+p, left-1)
			}
		}
	}
	lay("", 4)
	if held < 1000 {
		t.Errorf("%d of the rows are texts: too few", held)
	}
}

func TestReadOfEditedTexts(t *testing.T) {
	pieces := []string{"", "{", "}", ",", "=", `="`, `"`, "a", `\`, `\n`, `\"`, " ", "\n", "\xff", "A", "\x00"}
	for _, l := range [][]api.Label{nil, one("a", ""), one("ab", "x\"\\\ny"), listOf("a", "1", "b", "2"), listOf("a", "\\\\", "b", "\"\"", "c", "\n\n"), listOf("a", ",", "b", "=\"", "c", "}")} {
		s := textOf(l)
		if !checkText(t, s) {
			t.Errorf("%q isn't read", s)
		}
		for i := 0; i <= len(s); i++ {
			for j := i; j <= min(len(s), i+2); j++ {
				for _, p := range pieces {
					checkText(t, s[:i]+p+s[j:])
				}
			}
		}
	}
}

func TestReadOfNoise(t *testing.T) {
	count := map[api.Errno]int{}
	for _, l := range noise(20000) {
		want, fault := canonOf(l)
		if fault == 0 && !slices.Equal(want, l) {
			want, fault = nil, api.ErrForm
		}
		checkRead(t, textOf(l), want, fault)
		count[fault]++
	}
	for _, e := range []api.Errno{0, api.ErrMany, api.ErrLong, api.ErrForm, api.ErrUtf} {
		if count[e] < 100 {
			t.Errorf("%d texts of error %d: too few", count[e], e)
		}
	}
}

func TestReadOfLongTexts(t *testing.T) {
	const n = 1 << 20
	for _, c := range []struct {
		s    string
		want api.Errno
	}{
		{strings.Repeat("{", n), api.ErrForm},
		{"{" + strings.Repeat("a", n), api.ErrForm},
		{"{" + strings.Repeat("=", n), api.ErrForm},
		{"{" + strings.Repeat(`="`, n), api.ErrForm},
		{`{a="` + strings.Repeat(`\`, n), api.ErrForm},
		{`{a="` + strings.Repeat(`\`, 2*n) + `"}`, api.ErrLong},
		{`{a="` + strings.Repeat("v", n) + `"}`, api.ErrLong},
		{"{" + strings.Repeat("a", n) + `=""}`, api.ErrForm},
		{`{a=""` + strings.Repeat(`,a=""`, n) + "}", api.ErrMany},
		{`{a=""` + strings.Repeat(`,a=""`, n), api.ErrForm},
		{`{` + strings.Repeat(`a="",`, n) + "}", api.ErrForm},
	} {
		if l, e := label.Read(c.s); e != c.want || len(l) > 0 {
			t.Errorf("Read of %q ..: %d labels, %d, not %d", c.s[:8], len(l), e, c.want)
		}
	}
}

// P8.4, and the rules that hold everywhere.

// inside tells whether the bytes of part lie among those of s.
func inside(part, s string) bool {
	p, q := uintptr(unsafe.Pointer(unsafe.StringData(part))), uintptr(unsafe.Pointer(unsafe.StringData(s)))
	return len(part) > 0 && q <= p && p < q+uintptr(len(s))
}

// given answers s in memory that can be spoilt.
func given(s string) string {
	return strings.Clone(s)
}

func TestCanonAnswersNewMemory(t *testing.T) {
	room := []api.Label{{Name: given("bb"), Value: given("22")}, {Name: given("aa"), Value: given("11")}, {Name: "spare", Value: "room"}}
	l := room[:2]
	got, e := label.Canon(l)
	if e != 0 || !slices.Equal(got, listOf("aa", "11", "bb", "22")) {
		t.Fatalf("Canon: %q, %d", got, e)
	}
	for _, x := range got {
		for _, y := range l {
			if inside(x.Name, y.Name) || inside(x.Value, y.Value) {
				t.Errorf("%q lies in what was handed in", x)
			}
		}
	}
	clear(got[:cap(got)])
	if !slices.Equal(room, listOf("bb", "22", "aa", "11", "spare", "room")) {
		t.Errorf("what was handed in was changed: %q", room)
	}
	sorted := listOf("a", "1", "b", "2") // also where nothing moves
	got, _ = label.Canon(sorted)
	again, _ := label.Canon(sorted)
	clear(got[:cap(got)])
	if !slices.Equal(sorted, listOf("a", "1", "b", "2")) || !slices.Equal(again, sorted) {
		t.Error("Canon's answer shares memory")
	}
}

func TestCanonLeavesWhatHasFaults(t *testing.T) {
	checkFault(t, listOf("b", "1", "a", "1", "a", "2"), api.ErrForm) // it holds what was handed in against what it was
	checkFault(t, listOf("b", "1", "a", "\xff"), api.ErrUtf)
	mixed := many(17)
	slices.Reverse(mixed)
	checkFault(t, mixed, api.ErrMany)
}

func TestFindAnswersNewMemory(t *testing.T) {
	l := []api.Label{{Name: "a", Value: given("value")}}
	if v, _ := label.Find(l, "a"); v != "value" || inside(v, l[0].Value) {
		t.Errorf("%q lies in what was handed in", v)
	}
}

func TestTextsAreNewMemory(t *testing.T) {
	s := given(`{aa="11",bb="2\n"}`)
	l, e := label.Read(s)
	if e != 0 {
		t.Fatal(e)
	}
	for _, x := range l {
		if inside(x.Name, s) || inside(x.Value, s) {
			t.Errorf("%q lies in the text", x)
		}
	}
	again, _ := label.Read(s)
	clear(l[:cap(l)])
	if !slices.Equal(again, listOf("aa", "11", "bb", "2\n")) {
		t.Errorf("two answers share memory: %q", again)
	}
	ahead := listOf("b", "x\"", "a", "\n")
	l = slices.Clone(ahead)
	w := label.Write(l)
	for _, x := range l {
		if inside(w, x.Name) || inside(w, x.Value) {
			t.Errorf("the text lies in %q", x)
		}
	}
	label.Compare(l, l)
	label.Find(l, "a")
	if !slices.Equal(l, ahead) {
		t.Errorf("what was handed in was changed: %q", l)
	}
}

func TestLimitsAreThoseOfTheDocument(t *testing.T) {
	if api.MaxName != 32 || api.MaxValue != 256 || api.MaxLabels != 16 {
		t.Errorf("%d, %d, %d", api.MaxName, api.MaxValue, api.MaxLabels)
	}
}

func TestManyAtOnce(t *testing.T) {
	lists := noise(500)
	var all sync.WaitGroup
	for range 8 {
		all.Go(func() {
			for _, l := range lists {
				want, fault := canonOf(l)
				checkCanon(t, l, want, fault)
				if s := label.Write(l); s != textOf(l) {
					t.Errorf("Write(%q): %q", l, s)
				}
			}
		})
	}
	all.Wait()
}
