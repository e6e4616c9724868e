package varint_test

import (
	"bytes"
	"encoding/binary"
	"math"
	"math/big"
	"math/rand"
	"slices"
	"testing"

	"garner/api"
	"garner/varint"
)

// numbers are 0, the ends, what stands about each power of 2, and numbers of all lengths from a fixed seed.
func numbers() []uint64 {
	l := []uint64{0, math.MaxUint64}
	for k := range 64 {
		p := uint64(1) << k
		l = append(l, p-1, p, p+1, -p)
	}
	r := rand.New(rand.NewSource(1))
	for range 2000 {
		l = append(l, r.Uint64()>>r.Intn(64))
	}
	return l
}

// row makes n bytes c with the last ones behind them.
func row(n int, c byte, last ...byte) []byte {
	return append(bytes.Repeat([]byte{c}, n), last...)
}

// P1.1

func TestPutOneNumber(t *testing.T) {
	for _, c := range []struct {
		n    uint64
		want []byte
	}{
		{0, []byte{0}},
		{1, []byte{1}},
		{127, []byte{0x7f}},
		{128, []byte{0x80, 1}},
		{300, []byte{0xac, 2}},
		{1<<14 - 1, []byte{0xff, 0x7f}},
		{1 << 14, []byte{0x80, 0x80, 1}},
		{1<<21 - 1, []byte{0xff, 0xff, 0x7f}},
		{1 << 21, []byte{0x80, 0x80, 0x80, 1}},
		{1<<63 - 1, row(8, 0xff, 0x7f)},
		{1 << 63, row(9, 0x80, 1)},
		{math.MaxUint64, row(9, 0xff, 1)},
	} {
		if b := varint.Put(c.n); !bytes.Equal(b, c.want) {
			t.Errorf("Put(%d): % x, not % x", c.n, b, c.want)
		}
	}
}

func TestPutRow(t *testing.T) {
	if b := varint.Put(); len(b) != 0 {
		t.Errorf("Put(): % x", b)
	}
	if b := varint.Put(300, 0); !bytes.Equal(b, []byte{0xac, 2, 0}) {
		t.Errorf("Put(300, 0): % x", b)
	}
	if b := varint.Put(0, 0, 128, 0); !bytes.Equal(b, []byte{0, 0, 0x80, 1, 0}) {
		t.Errorf("Put(0, 0, 128, 0): % x", b)
	}
	var want []byte
	for _, n := range numbers() {
		want = binary.AppendUvarint(want, n)
	}
	if b := varint.Put(numbers()...); !bytes.Equal(b, want) {
		t.Error("Put of many numbers")
	}
}

func TestPutIsShortest(t *testing.T) {
	for _, n := range numbers() {
		b := varint.Put(n)
		if want := binary.AppendUvarint(nil, n); !bytes.Equal(b, want) {
			t.Errorf("Put(%d): % x, not % x", n, b, want)
		}
		if len(b) > 10 || len(b) > 1 && b[len(b)-1] == 0 {
			t.Errorf("Put(%d): % x is too long", n, b)
		}
	}
}

// P1.2

type got struct {
	n  uint64
	to int
	e  api.Errno
}

func get(b []byte, at int) got {
	n, to, e := varint.Get(b, at)
	return got{n, to, e}
}

// wanted answers what the chapter's words say of Get, by numbers of any length.
func wanted(b []byte, at int) got {
	if at < 0 || at > len(b) {
		return got{e: api.ErrArg}
	}
	sum := new(big.Int)
	for i := 0; ; i++ {
		if at+i >= len(b) {
			return got{e: api.ErrShort}
		}
		c := b[at+i]
		if i == 9 && c != 0 && c != 1 {
			return got{e: api.ErrForm}
		}
		part := big.NewInt(int64(c % 128))
		sum.Add(sum, part.Lsh(part, uint(7*i)))
		if c < 128 {
			if c == 0 && i != 0 {
				return got{e: api.ErrForm}
			}
			return got{sum.Uint64(), at + i + 1, api.OK}
		}
	}
}

func TestGet(t *testing.T) {
	for _, c := range []struct {
		b    []byte
		at   int
		want got
	}{
		{[]byte{0xac, 2}, 0, got{300, 2, api.OK}},
		{[]byte{0}, 0, got{0, 1, api.OK}},
		{[]byte{0x7f}, 0, got{127, 1, api.OK}},
		{[]byte{0x80, 1}, 0, got{128, 2, api.OK}},
		{[]byte{0xff, 0x7f}, 0, got{1<<14 - 1, 2, api.OK}},
		{row(9, 0xff, 1), 0, got{math.MaxUint64, 10, api.OK}},
		{row(9, 0x80, 1), 0, got{1 << 63, 10, api.OK}},
		{row(8, 0xff, 0x7f), 0, got{1<<63 - 1, 9, api.OK}},
		{[]byte{0, 0}, 0, got{0, 1, api.OK}},
		{[]byte{0, 0}, 1, got{0, 2, api.OK}},
		{[]byte{0xac, 2}, 1, got{2, 2, api.OK}},
		{[]byte{0x80, 0xac, 2, 0x80}, 1, got{300, 3, api.OK}},
		{row(9, 0xff, 1, 0xff), 0, got{math.MaxUint64, 10, api.OK}},
		{append([]byte{0xff}, row(9, 0xff, 1)...), 1, got{math.MaxUint64, 11, api.OK}},
	} {
		if g := get(c.b, c.at); g != c.want {
			t.Errorf("Get(% x, %d): %v, not %v", c.b, c.at, g, c.want)
		}
	}
}

func TestGetArg(t *testing.T) {
	for _, b := range [][]byte{nil, {}, {7}, {0x80}, {0x80, 0}, row(20, 0xff)} {
		for _, at := range []int{math.MinInt, math.MinInt + 1, -2, -1, len(b) + 1, len(b) + 2, math.MaxInt - 9, math.MaxInt} {
			if g := get(b, at); g != (got{e: api.ErrArg}) {
				t.Errorf("Get(% x, %d): %v", b, at, g)
			}
		}
	}
}

func TestGetShort(t *testing.T) {
	for n := range 10 { // nine bytes that another follows are the most that can be too short
		for _, c := range []byte{0x80, 0x81, 0xff} {
			b := row(n, c)
			if g := get(b, 0); g != (got{e: api.ErrShort}) {
				t.Errorf("Get(% x, 0): %v", b, g)
			}
			if g := get(append([]byte{5, 0}, b...), 2); g != (got{e: api.ErrShort}) {
				t.Errorf("Get(05 00 % x, 2): %v", b, g)
			}
		}
	}
	if g := get([]byte{7}, 1); g != (got{e: api.ErrShort}) {
		t.Errorf("Get(07, 1): %v", g)
	}
	if g := get(nil, 0); g != (got{e: api.ErrShort}) {
		t.Errorf("Get(, 0): %v", g)
	}
}

func TestGetReadsNoSpareRoom(t *testing.T) {
	b := []byte{0xac, 2, 7}
	if g := get(b[:1], 0); g != (got{e: api.ErrShort}) {
		t.Errorf("Get(ac, 0) with 02 behind it: %v", g)
	}
	if g := get(b[:2], 2); g != (got{e: api.ErrShort}) {
		t.Errorf("Get(ac 02, 2) with 07 behind it: %v", g)
	}
	if g := get(b[:2], 3); g != (got{e: api.ErrArg}) {
		t.Errorf("Get(ac 02, 3) with 07 behind it: %v", g)
	}
}

func TestGetTenthByte(t *testing.T) {
	for _, c := range []byte{0x80, 0x81, 0xff} {
		for last := range 256 {
			b := row(9, c, byte(last))
			if g, w := get(b, 0), wanted(b, 0); g != w || (g.e == api.OK) != (last == 1) {
				t.Errorf("Get(% x, 0): %v, not %v", b, g, w)
			}
			b = append(b, 1) // the tenth byte is judged before it is asked whether an eleventh is there
			if g, w := get(b, 0), wanted(b, 0); g != w || (g.e == api.OK) != (last == 1) {
				t.Errorf("Get(% x, 0): %v, not %v", b, g, w)
			}
		}
	}
}

func TestGetLastByteZero(t *testing.T) {
	for n := 1; n <= 9; n++ {
		for _, c := range []byte{0x80, 0xff} {
			for _, b := range [][]byte{row(n, c, 0), row(n, c, 0, 1)} {
				if g := get(b, 0); g != (got{e: api.ErrForm}) {
					t.Errorf("Get(% x, 0): %v", b, g)
				}
			}
		}
	}
}

// everyRow calls f with all rows of at most n bytes of those in from.
func everyRow(n int, from []byte, f func([]byte)) {
	var grow func(b []byte)
	grow = func(b []byte) {
		f(b)
		if len(b) < n {
			for _, c := range from {
				grow(append(b, c))
			}
		}
	}
	grow(nil)
}

func TestGetOfAllRows(t *testing.T) {
	check := func(b []byte) {
		for at := -1; at <= len(b)+1; at++ {
			if g, w := get(b, at), wanted(b, at); g != w {
				t.Fatalf("Get(% x, %d): %v, not %v", b, at, g, w)
			}
		}
	}
	everyRow(5, []byte{0, 1, 2, 0x7f, 0x80, 0x81, 0xff}, check)
	everyRow(3, []byte{0, 1, 2, 0x40, 0x7f, 0x80, 0x81, 0xff}, func(b []byte) {
		for n := 6; n <= 9; n++ {
			check(append(row(n, 0x80), b...))
			check(append(row(n, 0xff), b...))
		}
	})
	everyRow(13, []byte{0, 0x80}, check)
	everyRow(13, []byte{1, 0xff}, check)
}

func TestGetWhatWasPut(t *testing.T) {
	l := numbers()
	b := varint.Put(l...)
	at := 0
	for _, n := range l {
		to := at + len(varint.Put(n))
		if g := get(b, at); g != (got{n, to, api.OK}) {
			t.Fatalf("Get(.., %d): %v, not %d", at, g, n)
		}
		at = to
	}
	if at != len(b) {
		t.Errorf("%d bytes of %d", at, len(b))
	}
}

// What is read is what Put writes: there is one form alone.
func TestOneFormAlone(t *testing.T) {
	everyRow(6, []byte{0, 1, 0x7f, 0x80, 0xff}, func(b []byte) {
		if n, to, e := varint.Get(b, 0); e == api.OK && !bytes.Equal(varint.Put(n), b[:to]) {
			t.Fatalf("% x is read as %d", b[:to], n)
		}
	})
}

// P1.3

func TestZig(t *testing.T) {
	for _, c := range []struct {
		n int64
		u uint64
	}{
		{0, 0}, {-1, 1}, {1, 2}, {-2, 3}, {2, 4}, {5, 10}, {63, 126}, {-64, 127}, {64, 128}, {-65, 129},
		{math.MaxInt32, 1<<32 - 2}, {math.MinInt32, 1<<32 - 1},
		{math.MaxInt64, math.MaxUint64 - 1}, {math.MinInt64, math.MaxUint64},
		{math.MaxInt64 - 1, math.MaxUint64 - 3}, {math.MinInt64 + 1, math.MaxUint64 - 2},
	} {
		if u := varint.Zig(c.n); u != c.u {
			t.Errorf("Zig(%d): %d, not %d", c.n, u, c.u)
		}
		if n := varint.Zag(c.u); n != c.n {
			t.Errorf("Zag(%d): %d, not %d", c.u, n, c.n)
		}
	}
}

func TestZigByItsWords(t *testing.T) {
	for _, u := range numbers() {
		n := int64(u)
		want := big.NewInt(n)
		want.Lsh(want, 1)
		if n < 0 {
			want.Neg(want).Sub(want, big.NewInt(1))
		}
		if z := varint.Zig(n); !want.IsUint64() || z != want.Uint64() {
			t.Errorf("Zig(%d): %d, not %s", n, z, want)
		}
		if back := varint.Zag(varint.Zig(n)); back != n {
			t.Errorf("Zag(Zig(%d)): %d", n, back)
		}
		if back := varint.Zig(varint.Zag(u)); back != u {
			t.Errorf("Zig(Zag(%d)): %d", u, back)
		}
	}
}

// P1.4

func TestPutLeavesItsList(t *testing.T) {
	l := numbers()
	keep := slices.Clone(l)
	varint.Put(l[:5]...)
	varint.Put(l...)
	if !slices.Equal(l, keep) {
		t.Error("Put changed its list")
	}
}

func TestGetLeavesItsList(t *testing.T) {
	for _, b := range [][]byte{{0xac, 2, 9}, {0x80, 0, 9}, {0x80, 0x80, 0x80}, row(9, 0xff, 1, 9), row(9, 0xff, 2, 9)} {
		keep := bytes.Clone(b)
		for at := -1; at <= len(b)+1; at++ {
			varint.Get(b, at)
			varint.Get(b[:2], at)
		}
		if !bytes.Equal(b, keep) {
			t.Errorf("Get changed % x to % x", keep, b)
		}
	}
}

// fill writes c over all of b, its spare room too.
func fill(b []byte, c byte) {
	b = b[:cap(b)]
	for i := range b {
		b[i] = c
	}
}

func TestPutAnswersNewMemory(t *testing.T) {
	rows := [][]uint64{{}, {0}, {1}, {300, 0}, {math.MaxUint64}, numbers()}
	var answers [][]byte
	for range 3 {
		for _, l := range rows {
			answers = append(answers, varint.Put(l...))
		}
	}
	for i, b := range answers {
		var want []byte
		for _, n := range rows[i%len(rows)] {
			want = binary.AppendUvarint(want, n)
		}
		if !bytes.Equal(b, want) {
			t.Errorf("answer %d was changed through another one", i)
		}
		fill(b, 0xee)
	}
	if b := varint.Put(300, 0); !bytes.Equal(b, []byte{0xac, 2, 0}) {
		t.Errorf("Put(300, 0) behind a change of its last answer: % x", b)
	}
}
