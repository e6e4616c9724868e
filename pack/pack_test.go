package pack_test

import (
	"bytes"
	"encoding/binary"
	"fmt"
	"math"
	"math/bits"
	"math/rand"
	"slices"
	"testing"

	"garner/api"
	"garner/pack"
	"garner/varint"
)

const top = uint64(math.MaxUint64)

// need answers how many bits n needs, by halving it.
func need(n uint64) int {
	w := 0
	for ; n > 0; n /= 2 {
		w++
	}
	return w
}

// least answers the least number that needs w bits.
func least(w int) uint64 {
	return uint64(1<<63) >> (64 - w)
}

// laid answers numbers in w bits each by the chapter's words, bit by bit.
func laid(w int, gaps ...uint64) []byte {
	var row []byte // a bit each
	for _, g := range gaps {
		for range w {
			row = append(row, byte(g%2))
			g /= 2
		}
	}
	b := make([]byte, (len(row)+7)/8)
	for i, bit := range row {
		b[i/8] += bit << (i % 8)
	}
	return b
}

// raw answers a list's bytes from what stands in them: the first number, w, and the gaps (differences less 1).
func raw(first uint64, w int, gaps ...uint64) []byte {
	b := binary.AppendUvarint(nil, uint64(len(gaps)+1))
	b = binary.AppendUvarint(b, first)
	b = append(b, byte(w))
	return join(b, laid(w, gaps...))
}

// packed answers a rising list's bytes by the chapter's words.
func packed(l []uint64) []byte {
	if len(l) == 0 {
		return []byte{0}
	}
	if len(l) == 1 {
		return binary.AppendUvarint([]byte{1}, l[0])
	}
	var gaps []uint64
	w := 0
	for i, n := range l[1:] {
		gaps = append(gaps, n-l[i]-1)
		w = max(w, need(gaps[i]))
	}
	return raw(l[0], w, gaps...)
}

// join lays parts one behind the other, in memory of its own and without spare room.
func join(parts ...[]byte) []byte {
	b := bytes.Join(parts, nil)
	return b[:len(b):len(b)]
}

// list answers the numbers from the first on with these gaps.
func list(first uint64, gaps ...uint64) []uint64 {
	l := []uint64{first}
	for _, g := range gaps {
		l = append(l, l[len(l)-1]+g+1)
	}
	return l
}

// steps answers n numbers from the first on, each so much greater than the one ahead of it.
func steps(n int, first, step uint64) []uint64 {
	l := make([]uint64, n)
	for i := range l {
		l[i] = first + uint64(i)*step
	}
	return l
}

// some answers n numbers with gaps of at most w bits, from a fixed seed.
func some(n, w int) []uint64 {
	r := rand.New(rand.NewSource(int64(n*100 + w)))
	l := []uint64{r.Uint64() >> 30}
	for len(l) < n {
		next := l[len(l)-1] + r.Uint64()>>(64-w) + 1
		if next <= l[len(l)-1] {
			break
		}
		l = append(l, next)
	}
	return l
}

// widths are lists whose greatest gap needs each number of bits, at each place among others that need fewer.
func widths() [][]uint64 {
	var l [][]uint64
	for w := 1; w <= 64; w++ {
		from := least(w)
		for _, g := range []uint64{from, from + from/3, 2*from - 1 - uint64(w/64)} { // a gap of 64 ones would pass the end
			l = append(l, list(0, g))
			if w < 63 {
				l = append(l, list(9, g, 0, 0), list(9, 0, g, 0), list(9, 0, 0, g), list(300, 1, g, from-1, 0, g/2, 0, 0, g/4, g, 0, 1))
			}
		}
		l = append(l, list(top-from-1, from), list(0, from, 0, from/4), list(1, 0, 0, 0, 0, 0, 0, 0, from))
	}
	return l
}

// lists are rising ones of all kinds.
func lists() [][]uint64 {
	l := [][]uint64{
		nil, {}, {0}, {1}, {127}, {128}, {300}, {1 << 63}, {top - 1}, {top},
		{0, 1}, {0, 2}, {0, 3}, {5, 6, 7}, {1, 4, 5}, {0, top}, {1, top}, {top - 1, top}, {top - 2, top}, {0, top - 1, top}, {0, 1, top}, {0, 1 << 63, top},
		steps(65535, 0, 1), steps(65536, 0, 1), steps(65536, top-65535, 1), steps(65536, 7, 3), steps(65536, 0, top/65535), some(65536, 20), some(65536, 47),
	}
	l = append(l, widths()...)
	for n := 2; n < 70; n++ {
		for _, w := range []int{0, 1, 2, 3, 5, 7, 8, 9, 15, 16, 17, 31, 33, 40, 50} {
			l = append(l, some(n, w))
		}
	}
	return l
}

// show tells the first numbers or bytes of l.
func show[T any](l []T) string {
	return fmt.Sprintf("%d of %x..", len(l), any(l[:min(len(l), 16)]))
}

// P3.1

func TestPackOfKnownLists(t *testing.T) {
	for _, c := range []struct {
		l []uint64
		b string
	}{
		{nil, "\x00"},
		{[]uint64{}, "\x00"},
		{[]uint64{5}, "\x01\x05"},
		{[]uint64{0}, "\x01\x00"},
		{[]uint64{300}, "\x01\xac\x02"},
		{[]uint64{top}, "\x01\xff\xff\xff\xff\xff\xff\xff\xff\xff\x01"},
		{[]uint64{5, 6}, "\x02\x05\x00"},
		{[]uint64{5, 6, 7}, "\x03\x05\x00"},
		{[]uint64{1, 4, 5}, "\x03\x01\x02\x02"},
		{[]uint64{0, 2}, "\x02\x00\x01\x01"},
		{[]uint64{0, 1, 3}, "\x03\x00\x01\x02"},
		{[]uint64{0, 128}, "\x02\x00\x07\x7f"},
		{[]uint64{0, 129}, "\x02\x00\x08\x80"},
		{[]uint64{0, 256, 257}, "\x03\x00\x08\xff\x00"},
		{[]uint64{0, 257}, "\x02\x00\x09\x00\x01"},
		{[]uint64{0, 512, 513, 515}, "\x04\x00\x09\xff\x01\x04\x00"},
		{[]uint64{0, 1<<62 + 1}, "\x02\x00\x3f\x00\x00\x00\x00\x00\x00\x00\x40"},
		{[]uint64{0, 1 << 63}, "\x02\x00\x3f\xff\xff\xff\xff\xff\xff\xff\x7f"},
		{[]uint64{0, 1<<63 + 1}, "\x02\x00\x40\x00\x00\x00\x00\x00\x00\x00\x80"},
		{[]uint64{0, top}, "\x02\x00\x40\xfe\xff\xff\xff\xff\xff\xff\xff"},
		{[]uint64{top - 1, top}, "\x02\xfe\xff\xff\xff\xff\xff\xff\xff\xff\x01\x00"},
		{[]uint64{0, 2, 3, 5, 6, 7, 8, 10, 12}, "\x09\x00\x01\xc5"},
		{[]uint64{0, 2, 3, 5, 6, 7, 8, 10, 12, 14}, "\x0a\x00\x01\xc5\x01"},
	} {
		if b, e := pack.Pack(c.l); string(b) != c.b || e != api.OK {
			t.Errorf("Pack(%d): % x, %d, not % x", c.l, b, e, c.b)
		}
	}
}

func TestPackByItsWords(t *testing.T) {
	for _, l := range lists() {
		if b, e := pack.Pack(l); !bytes.Equal(b, packed(l)) || e != api.OK {
			t.Errorf("Pack(%s): %s, %d, not %s", show(l), show(b), e, show(packed(l)))
		}
	}
}

// w is what the greatest gap needs, wherever it stands, and no more.
func TestPackWidth(t *testing.T) {
	for w := range 65 {
		for _, g := range []uint64{least(w), 1<<w - 1} {
			if need(g) != w || g == top {
				continue
			}
			b, e := pack.Pack(list(0, g))
			if e != api.OK || len(b) != 3+(w+7)/8 || int(b[2]) != w {
				t.Errorf("Pack of a gap of %d bits: % x, %d", w, b, e)
			}
		}
	}
}

func TestPackMany(t *testing.T) {
	for _, n := range []int{65537, 65538, 70000, 1 << 17} {
		for _, l := range [][]uint64{steps(n, 0, 1), steps(n, 9, 1000), make([]uint64, n), steps(n, 0, top)} { // of two errors it is this one
			if b, e := pack.Pack(l); len(b) != 0 || e != api.ErrMany {
				t.Errorf("Pack(%s): %s, %d", show(l), show(b), e)
			}
		}
	}
	for _, n := range []int{65535, 65536} {
		room := steps(1<<17, 0, 1) // numbers that aren't in the list don't count
		if b, e := pack.Pack(room[:n]); !bytes.Equal(b, packed(room[:n])) || e != api.OK {
			t.Errorf("Pack of %d numbers: %s, %d", n, show(b), e)
		}
		if b, e := pack.Pack(make([]uint64, n)); len(b) != 0 || e != api.ErrArg {
			t.Errorf("Pack of %d noughts: %s, %d", n, show(b), e)
		}
	}
}

func TestPackOfListsThatDontRise(t *testing.T) {
	for _, l := range [][]uint64{
		{0, 0}, {1, 1}, {top, top}, {1, 0}, {2, 1}, {top, 0}, {top, top - 1}, {1 << 63, 1<<63 - 1},
		{1, 2, 2}, {1, 1, 2}, {3, 2, 9}, {1, 9, 8}, {0, 5, 5, 6}, {0, top, 0}, {0, top, top}, {5, 6, 7, 8, 5},
	} {
		if b, e := pack.Pack(l); len(b) != 0 || e != api.ErrArg {
			t.Errorf("Pack(%d): % x, %d", l, b, e)
		}
	}
	for _, n := range []int{2, 3, 40, 65536} {
		for _, i := range []int{1, 2, n / 2, n - 1} {
			for _, less := range []uint64{0, 1, 2} {
				if i >= n || i == 0 {
					continue
				}
				l := steps(n, 10, 7)
				l[i] = l[i-1] - less
				if b, e := pack.Pack(l); len(b) != 0 || e != api.ErrArg {
					t.Errorf("Pack of %d numbers, number %d less than the one ahead by %d: %s, %d", n, i, less, show(b), e)
				}
			}
		}
	}
}

// P3.2

// got is what Unpack answers.
type got struct {
	l  []uint64
	to int
	e  api.Errno
}

func unpack(b []byte, at int) got {
	l, to, e := pack.Unpack(b, at)
	return got{l, to, e}
}

func (g got) is(w got) bool {
	return slices.Equal(g.l, w.l) && g.to == w.to && g.e == w.e
}

func (g got) String() string {
	return fmt.Sprintf("%s, %d, %d", show(g.l), g.to, g.e)
}

// checkUnpack checks what Unpack answers of b at a place.
func checkUnpack(t *testing.T, b []byte, at int, want got) {
	t.Helper()
	if g := unpack(b, at); !g.is(want) {
		t.Errorf("Unpack(%s, %d): %v, not %v", show(b), at, g, want)
	}
}

// wanted answers what the chapter's words say of Unpack, gap by gap and bit by bit.
func wanted(b []byte, at int) got {
	count, at, e := varint.Get(b, at)
	if e != api.OK {
		return got{e: e}
	}
	if count > 65536 {
		return got{e: api.ErrMany}
	}
	if count == 0 {
		return got{to: at}
	}
	first, at, e := varint.Get(b, at)
	if e != api.OK {
		return got{e: e}
	}
	l := []uint64{first}
	if count == 1 {
		return got{l: l, to: at}
	}
	if len(b) == at {
		return got{e: api.ErrShort}
	}
	w := int(b[at])
	at++
	if w > 64 {
		return got{e: api.ErrForm}
	}
	end := at + (int(count-1)*w+7)/8
	if end > len(b) {
		return got{e: api.ErrShort}
	}
	place, most := 0, 0
	next := func() uint64 {
		bit := uint64(b[at+place/8]) >> (place % 8) % 2
		place++
		return bit
	}
	for range count - 1 {
		var gap uint64
		for k := range w {
			gap += next() << k
		}
		most = max(most, need(gap))
		n, over := bits.Add64(l[len(l)-1], gap, 1)
		if over != 0 {
			return got{e: api.ErrForm}
		}
		l = append(l, n)
	}
	for place < 8*(end-at) {
		if next() != 0 {
			return got{e: api.ErrForm}
		}
	}
	if w > most {
		return got{e: api.ErrForm}
	}
	return got{l: l, to: end}
}

func TestUnpackOfKnownBytes(t *testing.T) {
	for _, c := range []struct {
		b    string
		at   int
		want got
	}{
		{"\x00", 0, got{to: 1}},
		{"\x00\x00", 0, got{to: 1}},
		{"\x00\x00", 1, got{to: 2}},
		{"\x01\x05", 0, got{l: []uint64{5}, to: 2}},
		{"\x01\x05\x41", 0, got{l: []uint64{5}, to: 2}}, // one number has no byte w
		{"\x01\x01\x05", 1, got{l: []uint64{5}, to: 3}},
		{"\x03\x05\x00", 0, got{l: []uint64{5, 6, 7}, to: 3}},
		{"\x03\x01\x02\x02", 0, got{l: []uint64{1, 4, 5}, to: 4}},
		{"\x09\x03\x01\x02\x02\x09", 1, got{l: []uint64{1, 4, 5}, to: 5}},
		{"\x03\x00\x09\xff\x03\x00", 0, got{l: []uint64{0, 512, 514}, to: 6}},
		{"\x02\x00\x40\xfe\xff\xff\xff\xff\xff\xff\xff", 0, got{l: []uint64{0, top}, to: 11}},
		{"\x02\xfe\xff\xff\xff\xff\xff\xff\xff\xff\x01\x00", 0, got{l: []uint64{top - 1, top}, to: 12}},
		{"\x03\x01\x02\x12", 0, got{e: api.ErrForm}},
		{"\x03\x01\x03\x02", 0, got{e: api.ErrForm}},
		{"\x02\xff\xff\xff\xff\xff\xff\xff\xff\xff\x01\x00", 0, got{e: api.ErrForm}},
		{"\x03\x01\x41", 0, got{e: api.ErrForm}},
		{"\x03\x01\x02", 0, got{e: api.ErrShort}},
		{"\x03\x01", 0, got{e: api.ErrShort}},
		{"\x03", 0, got{e: api.ErrShort}},
		{"", 0, got{e: api.ErrShort}},
		{"\x81\x80\x04", 0, got{e: api.ErrMany}},
	} {
		checkUnpack(t, []byte(c.b), c.at, c.want)
	}
	checkUnpack(t, nil, 0, got{e: api.ErrShort})
}

func TestUnpackWhatWasPacked(t *testing.T) {
	for _, l := range lists() {
		b := packed(l)
		checkUnpack(t, b, 0, got{l: l, to: len(b)})
	}
}

func TestUnpackBehindAndBeforeOtherBytes(t *testing.T) {
	for _, l := range append(widths(), nil, []uint64{5}, []uint64{top}, []uint64{5, 6, 7}, []uint64{0, top}, some(65536, 20)) {
		p := packed(l)
		for _, before := range []string{"", "\x00", "\xff", "\x03\x01\x02\x02"} {
			for _, behind := range []string{"", "\x00", "\xff", "\x01\x05", "\xff\xff\xff\xff\xff\xff\xff\xff\xff\xff"} {
				b := join([]byte(before), p, []byte(behind))
				checkUnpack(t, b, len(before), got{l: l, to: len(before) + len(p)})
			}
		}
	}
}

func TestUnpackOneBehindTheOther(t *testing.T) {
	var b []byte
	for _, l := range lists() {
		p, e := pack.Pack(l)
		if e != api.OK {
			t.Fatal(e)
		}
		b = append(b, p...)
	}
	at := 0
	for _, l := range lists() {
		checkUnpack(t, b, at, got{l: l, to: at + len(packed(l))})
		at += len(packed(l))
	}
	checkUnpack(t, b, at, got{e: api.ErrShort})
}

func TestUnpackEachShorterBeginning(t *testing.T) {
	for _, l := range append(widths(), nil, []uint64{5}, []uint64{300}, []uint64{top}, []uint64{5, 6, 7}, []uint64{0, top}, some(300, 7), some(300, 8), some(300, 9), some(130, 13)) {
		p := packed(l)
		for k := range p {
			checkUnpack(t, p[:k:k], 0, got{e: api.ErrShort})
			checkUnpack(t, p[:k], 0, got{e: api.ErrShort}) // what stands in the spare room isn't read
			checkUnpack(t, join([]byte{7, 7}, p[:k]), 2, got{e: api.ErrShort})
		}
	}
	p := packed(some(65536, 20))
	for _, k := range []int{0, 1, 2, 3, len(p) / 2, len(p) - 2, len(p) - 1} {
		checkUnpack(t, p[:k:k], 0, got{e: api.ErrShort})
	}
}

func TestUnpackPlaces(t *testing.T) {
	for _, b := range [][]byte{nil, {}, {0}, {1, 5}, packed([]uint64{1, 4, 5}), packed(some(200, 9)), {0xff}} {
		for _, at := range []int{math.MinInt, math.MinInt + 1, -2, -1, len(b) + 1, len(b) + 2, math.MaxInt - 9, math.MaxInt} {
			checkUnpack(t, b, at, got{e: api.ErrArg})
		}
		checkUnpack(t, b, len(b), got{e: api.ErrShort})
		checkUnpack(t, join(b, []byte{0}), len(b), got{to: len(b) + 1})
	}
	b := packed([]uint64{1, 4, 5})
	checkUnpack(t, b[:2], 3, got{e: api.ErrArg})
}

func TestUnpackMany(t *testing.T) {
	for _, n := range []uint64{65537, 65538, 1 << 17, 1<<31 - 1, 1 << 32, 1<<32 + 1, 1 << 62, 1<<63 - 1, 1 << 63, 1<<63 + 1, top - 1, top} {
		c := binary.AppendUvarint(nil, n)
		for _, behind := range []string{"", "\x05", "\x05\x00", "\x80\x00", "\x05\x41", "\x05\x00\xff"} { // whatever stands behind how many
			checkUnpack(t, join(c, []byte(behind)), 0, got{e: api.ErrMany})
			checkUnpack(t, join([]byte{9}, c, []byte(behind)), 1, got{e: api.ErrMany})
		}
	}
	checkUnpack(t, packed(steps(65537, 0, 1)), 0, got{e: api.ErrMany}) // all of it is there, and right but for how many
	checkUnpack(t, packed(steps(65536, 0, 1)), 0, got{l: steps(65536, 0, 1), to: 5})
	checkUnpack(t, []byte{0x80, 0x80, 4}, 0, got{e: api.ErrShort})
}

func TestUnpackNumbersInMoreBytes(t *testing.T) {
	for _, long := range []string{"\x82\x00", "\x82\x80\x00", "\x80\x00", "\x81\x00", "\x82\x80\x80\x80\x80\x80\x80\x80\x80\x00", "\x82\x80\x80\x80\x80\x80\x80\x80\x80\x02", "\x82\x80\x80\x80\x80\x80\x80\x80\x80\x80\x00"} {
		for _, behind := range []string{"", "\x00", "\x00\x00", "\x01\x01\x01"} {
			checkUnpack(t, []byte(long+behind), 0, got{e: api.ErrForm})                // how many
			checkUnpack(t, []byte("\x01"+long+behind), 0, got{e: api.ErrForm})         // the first number
			checkUnpack(t, []byte("\x02"+long+behind), 0, got{e: api.ErrForm})         // the first number of two
			checkUnpack(t, []byte("\x00\x03"+long+behind), 1, got{e: api.ErrForm})     // behind other bytes
			checkUnpack(t, []byte("\x00"+long+behind), 0, got{to: 1})                  // no number has no first one
			checkUnpack(t, []byte("\x81\x80\x04"+long), 0, got{e: api.ErrMany})        // how many is asked first
			checkUnpack(t, []byte(long+"\xff\xff\xff\xff"), 0, got{e: api.ErrForm})    // whatever is behind it
			checkUnpack(t, []byte("\x02"+long+"\x41"), 0, got{e: api.ErrForm})         // w above 64 comes behind it
			checkUnpack(t, []byte("\xff\xff\xff\x7f"+long), 0, got{e: api.ErrMany})    // so many that nothing is read on
			checkUnpack(t, []byte("\x02"+long+"\x01\x01\x00"), 0, got{e: api.ErrForm}) // the rest being right
		}
	}
	for _, n := range []int{1, 5, 9} {
		cut := bytes.Repeat([]byte{0x80}, n)
		checkUnpack(t, cut, 0, got{e: api.ErrShort})
		checkUnpack(t, join([]byte{1}, cut), 0, got{e: api.ErrShort})
		checkUnpack(t, join([]byte{2}, cut), 0, got{e: api.ErrShort})
	}
	checkUnpack(t, bytes.Repeat([]byte{0xff}, 10), 0, got{e: api.ErrForm})
	checkUnpack(t, join([]byte{2}, bytes.Repeat([]byte{0xff}, 10)), 0, got{e: api.ErrForm})
}

func TestUnpackWidthAbove64(t *testing.T) {
	for w := 65; w < 256; w++ {
		for _, room := range []int{0, 1, 7, 8, 9, 40, 400} { // whether the bytes of the gaps are there or not
			for _, c := range []byte{0, 1, 0xff} {
				b := join([]byte{3, 1, byte(w)}, bytes.Repeat([]byte{c}, room))
				checkUnpack(t, b, 0, got{e: api.ErrForm})
				checkUnpack(t, join([]byte{9}, b), 1, got{e: api.ErrForm})
			}
		}
	}
}

func TestUnpackWidthGreaterThanNeeded(t *testing.T) {
	for w := range 65 {
		gaps := []uint64{least(w), 0, 0}
		for more := w + 1; more <= 64; more++ {
			for _, g := range [][]uint64{gaps[:1], {0, gaps[0]}, gaps} {
				checkUnpack(t, raw(0, more, g...), 0, got{e: api.ErrForm})
				checkUnpack(t, join([]byte{9}, raw(0, more, g...), []byte{0}), 1, got{e: api.ErrForm})
			}
		}
		b := raw(0, w, gaps[:1]...)
		checkUnpack(t, b, 0, got{l: list(0, gaps[0]), to: len(b)})
	}
}

func TestUnpackNumbersAboveTheEnd(t *testing.T) {
	for _, c := range []struct {
		first uint64
		gaps  []uint64
	}{
		{top, []uint64{0}}, {top, []uint64{0, 0}}, {top, []uint64{1}}, {top, []uint64{top}}, {top, []uint64{top - 1}}, {top, []uint64{top, top}},
		{top - 1, []uint64{0, 0}}, {top - 1, []uint64{1}}, {top - 1, []uint64{2}}, {top - 1, []uint64{0, 0, 0, 0}},
		{0, []uint64{top}}, {0, []uint64{top - 1, 0}}, {0, []uint64{0, top - 1}}, {0, []uint64{top, top}}, {0, []uint64{top, 0}},
		{1, []uint64{top - 1}}, {1, []uint64{top}}, {1, []uint64{top - 2, 0}}, {1 << 63, []uint64{1<<63 - 1}}, {1 << 63, []uint64{1 << 63}},
		{1, []uint64{1<<63 - 1, 1<<63 - 1}}, {300, []uint64{1, 2, 3, top - 1, 0, 0, 0}}, {300, []uint64{1, 2, 3, top - 309}},
	} {
		w := 0
		for _, g := range c.gaps {
			w = max(w, need(g))
		}
		b := raw(c.first, w, c.gaps...)
		checkUnpack(t, b, 0, got{e: api.ErrForm})
		checkUnpack(t, join([]byte{9}, b, []byte{0, 0}), 1, got{e: api.ErrForm})
		if w > 0 {
			checkUnpack(t, b[:len(b)-1], 0, got{e: api.ErrShort}) // that bytes are missing comes first
		}
	}
	for _, l := range [][]uint64{list(top-1, 0), list(0, top-1), list(1, top-2), list(1<<63, 1<<63-2), list(300, 1, 2, 3, top-310)} {
		if l[len(l)-1] != top {
			t.Fatal(l)
		}
		checkUnpack(t, packed(l), 0, got{l: l, to: len(packed(l))})
	}
}

func TestUnpackNoughtsAtTheEnd(t *testing.T) {
	for n := 2; n < 20; n++ {
		for w := 1; w <= 60; w++ {
			l := list(1, slices.Repeat([]uint64{least(w)}, n-1)...)
			if !slices.IsSorted(l) {
				continue
			}
			b := packed(l)
			for bit := (n - 1) * w % 8; bit%8 != 0; bit++ {
				b[len(b)-1] ^= 1 << bit
				checkUnpack(t, b, 0, got{e: api.ErrForm})
				checkUnpack(t, join([]byte{0}, b, []byte{0}), 1, got{e: api.ErrForm})
				checkUnpack(t, b[:len(b)-1], 0, got{e: api.ErrShort})
				b[len(b)-1] ^= 1 << bit
			}
			checkUnpack(t, b, 0, got{l: l, to: len(b)})
		}
	}
}

// everyRow calls f with all rows of at most n bytes of those in from.
func everyRow(n int, from []byte, f func([]byte)) {
	var grow func(b []byte)
	grow = func(b []byte) {
		f(b)
		if len(b) < n {
			for _, c := range from {
				grow(append(b, c))
			}
		}
	}
	grow(make([]byte, 0, n))
}

// checkByItsWords checks Unpack of b against the chapter's words, and that what is read is what Pack writes.
func checkByItsWords(t *testing.T, b []byte, at int) {
	t.Helper()
	g := unpack(b, at)
	if w := wanted(b, at); !g.is(w) {
		t.Fatalf("Unpack(%s, %d): %v, not %v", show(b), at, g, w)
	}
	if g.e != api.OK {
		return
	}
	if p, e := pack.Pack(g.l); e != api.OK || !bytes.Equal(p, b[at:g.to]) {
		t.Fatalf("Unpack(%s, %d): %v, packed again: %s, %d", show(b), at, g, show(p), e)
	}
}

func TestUnpackOfAllRows(t *testing.T) {
	everyRow(6, []byte{0, 1, 2, 3, 4, 9, 0x40, 0x80, 0xff}, func(b []byte) { checkByItsWords(t, b, 0) })
	everyRow(4, []byte{0, 1, 2, 0x41, 0x7f, 0x80, 0xff}, func(b []byte) {
		for at := -1; at <= len(b)+1; at++ {
			checkByItsWords(t, b, at)
		}
	})
	for x := range 1 << 16 { // all of w and of one byte of gaps
		for _, n := range []byte{2, 3, 4, 5, 8, 9} {
			checkByItsWords(t, []byte{n, 5, byte(x >> 8), byte(x)}, 0)
		}
	}
}

func TestUnpackOfChangedBytes(t *testing.T) {
	r := rand.New(rand.NewSource(3))
	for _, l := range append(widths(), some(20, 3), some(40, 11), some(33, 40), []uint64{0, top}, []uint64{5, 6, 7}) {
		p := packed(l)
		for bit := range 8 * len(p) {
			p[bit/8] ^= 1 << (bit % 8)
			checkByItsWords(t, p, 0)
			p[bit/8] ^= 1 << (bit % 8)
		}
		for range 50 {
			b := join(p, []byte{byte(r.Intn(256))})
			for range 1 + r.Intn(3) {
				b[r.Intn(len(b))] = byte(r.Intn(256))
			}
			checkByItsWords(t, b, 0)
			checkByItsWords(t, b, r.Intn(len(b)))
		}
	}
}

// P3.3

func TestPackLeavesItsList(t *testing.T) {
	for _, l := range append(lists(), []uint64{1, 1, 0}, []uint64{5, 4, 9}) {
		keep := slices.Clone(l)
		pack.Pack(l)
		pack.Pack(l[:len(l)/2])
		if !slices.Equal(l, keep) {
			t.Errorf("Pack changed %s to %s", show(keep), show(l))
		}
	}
}

func TestUnpackLeavesItsList(t *testing.T) {
	for _, b := range [][]byte{packed(some(60, 9)), join(packed([]uint64{1, 4, 5}), packed([]uint64{0, top})), []byte("\x03\x01\x02\x12\xff"), []byte("\x03\x01\x03\x02"), raw(top, 64, top, top)} {
		keep := bytes.Clone(b)
		for at := -1; at <= len(b)+1; at++ {
			pack.Unpack(b, at)
			pack.Unpack(b[:len(b)/2], at)
		}
		if !bytes.Equal(b, keep) {
			t.Errorf("Unpack changed %s to %s", show(keep), show(b))
		}
	}
}

// fill writes c over all of l, its spare room too.
func fill[T any](l []T, c T) {
	l = l[:cap(l)]
	for i := range l {
		l[i] = c
	}
}

func TestPackAnswersNewMemory(t *testing.T) {
	rows := [][]uint64{nil, {0}, {5}, {5, 6, 7}, {1, 4, 5}, {0, top}, some(300, 9), some(65536, 20)}
	var answers [][]byte
	for range 3 {
		for _, l := range rows {
			b, _ := pack.Pack(l)
			answers = append(answers, b)
		}
	}
	for i, b := range answers {
		l := rows[i%len(rows)]
		keep := slices.Clone(l)
		if !bytes.Equal(b, packed(l)) {
			t.Errorf("the bytes of %s were changed through another answer", show(l))
		}
		fill(b, 0xee)
		if !slices.Equal(l, keep) {
			t.Errorf("the bytes of %s share its memory", show(keep))
		}
	}
	if b, e := pack.Pack([]uint64{1, 4, 5}); string(b) != "\x03\x01\x02\x02" || e != api.OK {
		t.Errorf("Pack(1, 4, 5) behind a change of its last answer: % x, %d", b, e)
	}
}

func TestUnpackAnswersNewMemory(t *testing.T) {
	for _, l := range [][]uint64{nil, {0}, {5}, {5, 6, 7}, {1, 4, 5}, {0, top}, some(300, 9), some(65536, 20)} {
		b := packed(l)
		keep := bytes.Clone(b)
		one, two := unpack(b, 0), unpack(b, 0)
		fill(one.l, 0xee)
		if !bytes.Equal(b, keep) {
			t.Errorf("%s shares memory with what was read", show(l))
		}
		fill(b, 0xdd)
		if !slices.Equal(two.l, l) {
			t.Errorf("%s shares memory with another answer or with what was read", show(l))
		}
		checkUnpack(t, keep, 0, got{l: l, to: len(keep)})
	}
}
