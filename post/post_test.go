package post_test

import (
	"bytes"
	"encoding/binary"
	"fmt"
	"maps"
	"math"
	"math/bits"
	"math/rand"
	"slices"
	"sync"
	"testing"

	"garner/api"
	"garner/pack"
	"garner/post"
)

const top = uint64(math.MaxUint64)

// The model: the chapter's words.

// packed answers a block's bytes by the words of chapter 3, bit by bit.
func packed(l ...uint64) []byte {
	b := binary.AppendUvarint(nil, uint64(len(l)))
	if len(l) == 0 {
		return b
	}
	b = binary.AppendUvarint(b, l[0])
	if len(l) == 1 {
		return b
	}
	w := 0
	for i := range l[1:] {
		w = max(w, bits.Len64(l[i+1]-l[i]-1))
	}
	b = append(b, byte(w))
	gaps := make([]byte, ((len(l)-1)*w+7)/8)
	for i := range l[1:] {
		for bit := range w {
			if (l[i+1]-l[i]-1)>>bit&1 == 1 {
				gaps[(i*w+bit)/8] |= 1 << ((i*w + bit) % 8)
			}
		}
	}
	return append(b, gaps...)
}

// part is what stands in a list's bytes of a block: its entry and the block.
type part struct {
	last, size uint64
	block      []byte
}

// partOf answers what stands for a block with such numbers, be it right or not.
func partOf(l ...uint64) part {
	p := part{block: packed(l...)}
	p.size = uint64(len(p.block))
	if len(l) > 0 {
		p.last = l[len(l)-1]
	}
	return p
}

// laid answers the bytes of so many blocks, with these parts.
func laid(n uint64, parts ...part) []byte {
	b := binary.AppendUvarint(nil, n)
	for _, p := range parts {
		b = binary.AppendUvarint(b, p.last)
		b = binary.AppendUvarint(b, p.size)
	}
	for _, p := range parts {
		b = append(b, p.block...)
	}
	return b[:len(b):len(b)]
}

// partsOf answers what stands of the blocks of l.
func partsOf(l []uint64) []part {
	var parts []part
	for block := range slices.Chunk(l, 32) {
		parts = append(parts, partOf(block...))
	}
	return parts
}

// bytesOf answers the bytes of l, be it rising or not.
func bytesOf(l []uint64) []byte {
	parts := partsOf(l)
	return laid(uint64(len(parts)), parts...)
}

// isRising tells whether l is a rising list.
func isRising(l []uint64) bool {
	for i := range l {
		if i > 0 && l[i] <= l[i-1] {
			return false
		}
	}
	return true
}

// listOf answers the list whose bytes are b: what seems to stand in b is written again.
func listOf(b []byte) ([]uint64, bool) {
	n, at := binary.Uvarint(b)
	if at <= 0 || n > 2048 {
		return nil, false
	}
	for range 2 * n {
		_, size := binary.Uvarint(b[at:])
		if size <= 0 {
			return nil, false
		}
		at += size
	}
	var l []uint64
	for range n {
		block, to, e := pack.Unpack(b, at)
		if e != api.OK || len(block) > 32 {
			return nil, false
		}
		l = append(l, block...)
		at = to
	}
	return l, isRising(l) && len(l) <= 65536 && bytes.Equal(bytesOf(l), b)
}

// steps answers n numbers from the first on, each so much greater than the one ahead of it.
func steps(n int, first, step uint64) []uint64 {
	l := make([]uint64, n)
	for i := range l {
		l[i] = first + uint64(i)*step
	}
	return l
}

// some answers up to n rising numbers whose differences have up to w bits.
func some(r *rand.Rand, n, w int) []uint64 {
	l := []uint64{r.Uint64() >> (64 - w)}
	for len(l) < n {
		next := l[len(l)-1] + r.Uint64()>>(64-w) + 1
		if next <= l[len(l)-1] {
			break
		}
		l = append(l, next)
	}
	return l
}

// lists are rising ones of all kinds.
func lists() [][]uint64 {
	r := rand.New(rand.NewSource(11))
	l := [][]uint64{
		nil, {}, {0}, {5}, {127}, {128}, {1 << 63}, {top}, {0, 1}, {0, top}, {5, 6}, {top - 1, top}, {0, 1, top},
		steps(65504, 0, 1), steps(65505, 9, 2), steps(65535, 3, 3), steps(65536, 0, 1), steps(65536, top-65535, 1), steps(65536, 0, top/65535), some(r, 65536, 40),
		append(steps(32, 0, 1), top), append(steps(31, 0, 1), top), append([]uint64{0}, steps(32, top-31, 1)...),
	}
	for n := 1; n <= 140; n++ {
		l = append(l, steps(n, 0, 1), steps(n, 300, 7), steps(n, top-uint64(n)+1, 1), some(r, n, 1), some(r, n, 9), some(r, n, 33), some(r, n, 60))
	}
	return l
}

// show tells the first numbers or bytes of l.
func show[T any](l []T) string {
	return fmt.Sprintf("%d of %x..", len(l), any(l[:min(len(l), 40)]))
}

// rest takes all numbers that i still has.
func rest(i *post.Iter) []uint64 {
	var l []uint64
	for n, ok := i.Next(); ok; n, ok = i.Next() {
		l = append(l, n)
	}
	return l
}

// opened answers an iterator of l.
func opened(t *testing.T, l []uint64) *post.Iter {
	t.Helper()
	i, e := post.Open(bytesOf(l))
	if i == nil || e != api.OK {
		t.Fatalf("Open of the bytes of %s: %v, %d", show(l), i, e)
	}
	return i
}

// checkForm checks that b is taken for no list.
func checkForm(t *testing.T, b []byte) {
	t.Helper()
	if i, e := post.Open(b); i != nil || e != api.ErrForm {
		t.Errorf("Open(%s): %v, %d", show(b), i, e)
	}
}

// checkOpen checks Open of b against the model.
func checkOpen(t *testing.T, b []byte) {
	t.Helper()
	l, ok := listOf(b)
	if !ok {
		checkForm(t, b)
		return
	}
	i, e := post.Open(b)
	if i == nil || e != api.OK || i.Len() != len(l) {
		t.Fatalf("Open(%s): %v, %d", show(b), i, e)
	}
	if got := rest(i); !slices.Equal(got, l) {
		t.Errorf("Open(%s): %s, not %s", show(b), show(got), show(l))
	}
}

// P11.1

func TestWriteOfKnownLists(t *testing.T) {
	for _, c := range []struct {
		l []uint64
		b string
	}{
		{nil, "\x00"},
		{[]uint64{}, "\x00"},
		{[]uint64{0}, "\x01\x00\x02\x01\x00"},
		{[]uint64{5}, "\x01\x05\x02\x01\x05"},
		{[]uint64{5, 6}, "\x01\x06\x03\x02\x05\x00"},
		{[]uint64{1, 4, 5}, "\x01\x05\x04\x03\x01\x02\x02"},
		{[]uint64{300}, "\x01\xac\x02\x03\x01\xac\x02"},
		{[]uint64{top}, "\x01\xff\xff\xff\xff\xff\xff\xff\xff\xff\x01\x0b\x01\xff\xff\xff\xff\xff\xff\xff\xff\xff\x01"},
		{steps(32, 0, 1), "\x01\x1f\x03\x20\x00\x00"},
		{steps(33, 0, 1), "\x02\x1f\x03\x20\x02\x20\x00\x00\x01\x20"},
		{steps(34, 0, 1), "\x02\x1f\x03\x21\x03\x20\x00\x00\x02\x20\x00"},
		{steps(64, 0, 1), "\x02\x1f\x03\x3f\x03\x20\x00\x00\x20\x20\x00"},
		{steps(65, 0, 2), "\x03\x3e\x07\x7e\x07\x80\x01\x03\x20\x00\x01\xff\xff\xff\x7f\x20\x40\x01\xff\xff\xff\x7f\x01\x80\x01"},
		{append(steps(32, 0, 1), top), "\x02\x1f\x03\xff\xff\xff\xff\xff\xff\xff\xff\xff\x01\x0b\x20\x00\x00\x01\xff\xff\xff\xff\xff\xff\xff\xff\xff\x01"},
	} {
		if b, e := post.Write(c.l); string(b) != c.b || e != api.OK {
			t.Errorf("Write(%d): % x, %d, not % x", c.l, b, e, c.b)
		}
		if !bytes.Equal(bytesOf(c.l), []byte(c.b)) {
			t.Errorf("the model says of %d: % x", c.l, bytesOf(c.l))
		}
	}
}

func TestWriteByItsWords(t *testing.T) {
	for _, l := range lists() {
		if b, e := post.Write(l); !bytes.Equal(b, bytesOf(l)) || e != api.OK {
			t.Errorf("Write(%s): %s, %d, not %s", show(l), show(b), e, show(bytesOf(l)))
		}
	}
}

func TestWriteMany(t *testing.T) {
	for _, n := range []int{65537, 65568, 70000, 1 << 17} {
		for _, l := range [][]uint64{steps(n, 0, 1), steps(n, 9, 1000), make([]uint64, n), steps(n, 0, top)} { // of two errors it is this one
			if b, e := post.Write(l); len(b) != 0 || e != api.ErrMany {
				t.Errorf("Write(%s): %s, %d", show(l), show(b), e)
			}
		}
	}
	room := steps(1<<17, 0, 1) // numbers that aren't in the list don't count
	for _, n := range []int{65535, 65536} {
		if b, e := post.Write(room[:n]); !bytes.Equal(b, bytesOf(room[:n])) || e != api.OK {
			t.Errorf("Write of %d numbers: %s, %d", n, show(b), e)
		}
		if b, e := post.Write(make([]uint64, n)); len(b) != 0 || e != api.ErrArg {
			t.Errorf("Write of %d noughts: %s, %d", n, show(b), e)
		}
	}
}

func TestWriteOfListsThatDontRise(t *testing.T) {
	bad := [][]uint64{{0, 0}, {1, 1}, {top, top}, {2, 1}, {top, 0}, {1, 2, 2}, {3, 2, 9}, {0, top, 0}, {5, 6, 7, 8, 5}}
	for _, n := range []int{2, 31, 32, 33, 34, 63, 64, 65, 66, 96, 97, 200} {
		for at := 1; at < n; at++ { // a fault at each place, at the edges of blocks too
			for _, less := range []uint64{1, 2, 100} {
				l := steps(n, 1000, 1)
				l[at] -= less
				bad = append(bad, l)
			}
			l := steps(n, 0, 1)
			l[at-1] = top
			bad = append(bad, l)
		}
	}
	for _, l := range bad {
		if b, e := post.Write(l); len(b) != 0 || e != api.ErrArg {
			t.Errorf("Write(%d): %s, %d", l, show(b), e)
		}
	}
}

func TestOpenOfLists(t *testing.T) {
	for _, l := range lists() {
		i := opened(t, l)
		if i.Len() != len(l) {
			t.Errorf("Len of %s: %d", show(l), i.Len())
		}
		if got := rest(i); !slices.Equal(got, l) {
			t.Errorf("Open of the bytes of %s: %s", show(l), show(got))
		}
		if i.Len() != len(l) {
			t.Errorf("Len behind the end of %s: %d", show(l), i.Len())
		}
	}
}

func TestOpenOfPieces(t *testing.T) {
	checkForm(t, nil)
	checkForm(t, []byte{})
	for _, l := range [][]uint64{nil, {0}, {5}, {5, 6}, {300}, {top}, {0, top}, steps(32, 0, 1), steps(33, 0, 5), steps(64, 9, 1), steps(97, 200, 77), steps(4200, 0, 1)} {
		b := bytesOf(l)
		for n := range b {
			checkForm(t, b[:n]) // what is missing stands in the spare room
			checkForm(t, bytes.Clone(b[:n]))
		}
		for _, c := range []byte{0, 1, 0x80, 0xff} {
			checkForm(t, append(bytes.Clone(b), c))
			checkForm(t, append([]byte{c}, b...))
		}
		checkForm(t, append(bytes.Clone(b), b...))
	}
}

func TestOpenOfTurnedBits(t *testing.T) {
	for _, l := range [][]uint64{nil, {0}, {5, 6}, {1, 4, 5}, {300, 700}, {0, top}, steps(32, 0, 1), steps(33, 0, 5), steps(66, 9, 1), steps(130, 200, 77)} {
		b := bytesOf(l)
		for bit := range 8 * len(b) {
			b[bit/8] ^= 1 << (bit % 8)
			checkOpen(t, b)
			b[bit/8] ^= 1 << (bit % 8)
		}
		checkOpen(t, b)
	}
}

func TestOpenOfNumbersOfBlocks(t *testing.T) {
	parts := partsOf(steps(96, 0, 1))
	for n := range uint64(6) {
		checkOpen(t, laid(n, parts...))
	}
	if _, e := post.Open(laid(3, parts...)); e != api.OK {
		t.Error(e)
	}
	for _, n := range []uint64{2047, 2048, 2049, 1 << 31, 1 << 32, 1<<63 - 1, 1 << 63, 1<<63 + 3, 1<<32 + 3, top - 1, top} {
		checkForm(t, laid(n))
		checkForm(t, laid(n, parts...))
	}
	all := partsOf(steps(65536, 0, 1))
	checkOpen(t, laid(2048, all...))
	checkForm(t, laid(2048, all[:2047]...))
	checkForm(t, laid(2047, all...))
	checkForm(t, laid(2049, append(slices.Clone(all), partOf(65536))...))
	checkForm(t, laid(2049, append(slices.Clone(all), partOf())...))
	checkForm(t, laid(2049, partsOf(steps(65568, 0, 1))...))
}

// The numbers ahead of the blocks have the shortest form alone.
func TestOpenOfNumbersInMoreBytes(t *testing.T) {
	checkOpen(t, []byte("\x01\x06\x03\x02\x05\x00"))
	for _, s := range []string{
		"\x80\x00", "\x80\x80\x00", "\x81\x00\x06\x03\x02\x05\x00", "\x01\x86\x00\x03\x02\x05\x00", "\x01\x06\x83\x00\x02\x05\x00",
		"\x01\x06\x04\x82\x00\x05\x00", "\x01\x06\x04\x02\x85\x00\x00", "\x01\x06\x83\x80\x80\x80\x80\x80\x80\x80\x80\x02\x02\x05\x00",
		"\x81\x80\x80\x80\x80\x80\x80\x80\x80\x02\x06\x03\x02\x05\x00", "\x01\x86\x80\x80\x80\x80\x80\x80\x80\x80\x02\x03\x02\x05\x00", "\x80", "\x01\x80", "\x01\x06\x80",
	} {
		checkForm(t, []byte(s))
	}
}

func TestOpenOfEntriesThatArentTheBlocks(t *testing.T) {
	for _, n := range []int{1, 2, 32, 33, 64, 65, 100} {
		l := steps(n, 1000, 3)
		parts := partsOf(l)
		count := uint64(len(parts))
		for k := range parts {
			for _, by := range []uint64{1, top, 3, 1 << 32, 1 << 63, 1000, top - 999} {
				parts[k].last += by
				checkForm(t, laid(count, parts...))
				parts[k].last -= by
				parts[k].size += by
				checkForm(t, laid(count, parts...))
				if k > 0 {
					parts[k-1].size -= by // in all they are as many
					checkForm(t, laid(count, parts...))
					parts[k-1].size += by
				}
				parts[k].size -= by
			}
			if k > 0 {
				parts[k].last, parts[k-1].last = parts[k-1].last, parts[k].last
				checkForm(t, laid(count, parts...))
				parts[k].last, parts[k-1].last = parts[k-1].last, parts[k].last
			}
		}
		checkOpen(t, laid(count, parts...))
	}
	parts := partsOf(steps(33, 0, 1))
	parts[0].block, parts[1].block = parts[1].block, parts[0].block
	checkForm(t, laid(2, parts...))
}

func TestOpenOfBlocksOfOtherLengths(t *testing.T) {
	for _, lens := range [][]int{
		{0}, {0, 0}, {1}, {1, 1}, {31}, {32}, {33}, {64}, {65}, {31, 1}, {31, 32}, {31, 33}, {33, 31}, {32, 0}, {32, 1}, {32, 31}, {32, 32}, {32, 33}, {32, 64},
		{0, 32}, {1, 32}, {16, 16}, {32, 0, 32}, {32, 31, 1}, {32, 1, 31}, {32, 33, 31}, {32, 32, 0}, {32, 32, 1}, {32, 32, 32}, {32, 32, 33}, {64, 32}, {64, 1}, {30, 34}, {65536}, {32, 65536},
	} {
		var parts []part
		all, full := 0, true
		for k, n := range lens {
			parts = append(parts, partOf(steps(n, uint64(all), 1)...))
			if n == 0 && all > 0 {
				parts[k].last = uint64(all) - 1
			}
			all += n
			full = full && n > 0 && n <= 32 && (n == 32 || k == len(lens)-1)
		}
		b := laid(uint64(len(parts)), parts...)
		checkOpen(t, b)
		if _, e := post.Open(b); (e == api.OK) != full {
			t.Errorf("Open of blocks of %d: %d", lens, e)
		}
	}
}

func TestOpenOfBlocksThatDontRise(t *testing.T) {
	one := steps(32, 100, 2)
	for first := range uint64(200) {
		for _, n := range []int{1, 2, 32} {
			b := laid(2, partOf(one...), partOf(steps(n, first, 1)...))
			checkOpen(t, b)
			if _, e := post.Open(b); (e == api.OK) != (first > 162) {
				t.Errorf("Open of a block up to 162 and one from %d on: %d", first, e)
			}
		}
	}
	high := steps(32, top-31, 1)
	for _, l := range [][]uint64{{0}, {top}, steps(32, 0, 1), high} {
		checkForm(t, laid(2, partOf(high...), partOf(l...)))
		checkForm(t, laid(3, partOf(steps(32, 0, 1)...), partOf(high...), partOf(l...)))
	}
	checkOpen(t, laid(2, partOf(steps(32, 0, 1)...), partOf(high...)))
}

// Blocks are such as pack.Pack writes.
func TestOpenOfWrongBlocks(t *testing.T) {
	for _, c := range []struct {
		last  uint64
		block string
	}{
		{5, ""}, {5, "\x03\x01\x02\x12"}, {4, "\x03\x01\x03\x02"}, {0, "\x02\xff\xff\xff\xff\xff\xff\xff\xff\xff\x01\x00"}, {6, "\x02\x05\x41"}, {6, "\x02\x05"}, {6, "\x02\x05\x00\x00"}, {5, "\x01\x05\x00"}, {0, "\x00"},
		{65535, "\x80\x80\x04\x00\x00"}, {65536, "\x81\x80\x04\x00\x00"}, {4, "\xff\xff\xff\xff\xff\xff\xff\xff\xff\x01\x05\x00"}, {top, "\x02\x00\x40\xff\xff\xff\xff\xff\xff\xff\xff"},
	} {
		checkForm(t, laid(1, part{c.last, uint64(len(c.block)), []byte(c.block)}))
		checkForm(t, laid(2, partOf(steps(32, 0, 1)...), part{c.last, uint64(len(c.block)), []byte(c.block)}))
	}
	checkOpen(t, laid(1, part{5, 4, []byte("\x03\x01\x02\x02")}))
}

func TestOpenOfAllRows(t *testing.T) {
	var grow func(b []byte, n int, from []byte)
	grow = func(b []byte, n int, from []byte) {
		checkOpen(t, b)
		if len(b) < n {
			for _, c := range from {
				grow(append(b, c), n, from)
			}
		}
	}
	grow(make([]byte, 0, 8), 7, []byte{0, 1, 2, 3, 5, 0x80})
	grow(make([]byte, 0, 8), 5, []byte{0, 1, 2, 3, 4, 6, 0x41, 0x7f, 0x80, 0xff})
	row := []byte{1, 6, 3, 2, 5, 0}
	for x := range 1 << 16 {
		for at := range row[1:] {
			b := bytes.Clone(row)
			b[at], b[at+1] = byte(x), byte(x>>8)
			checkOpen(t, b)
		}
	}
}

func TestOpenOfChangedBytes(t *testing.T) {
	r := rand.New(rand.NewSource(3))
	for range 300 {
		p := bytesOf(some(r, 1+r.Intn(100), 1+r.Intn(50)))
		for range 30 {
			b := append(bytes.Clone(p), byte(r.Intn(4)))[:len(p)+r.Intn(2)]
			for range 1 + r.Intn(3) {
				b[r.Intn(len(b))] = byte(r.Intn(256))
			}
			checkOpen(t, b)
		}
		b := make([]byte, r.Intn(60))
		r.Read(b)
		checkOpen(t, b)
	}
}

func TestLenIsOfAllNumbers(t *testing.T) {
	i := opened(t, steps(70, 0, 2))
	for n := range 70 {
		if i.Len() != 70 {
			t.Fatalf("Len behind %d numbers: %d", n, i.Len())
		}
		i.Next()
	}
	i.Next()
	i.Seek(top)
	if i.Len() != 70 {
		t.Errorf("Len at the end: %d", i.Len())
	}
	i = opened(t, steps(70, 0, 2))
	i.Seek(100)
	if i.Len() != 70 {
		t.Errorf("Len behind a Seek: %d", i.Len())
	}
}

func TestNilIter(t *testing.T) {
	var i *post.Iter
	for range 2 {
		if i.Len() != 0 {
			t.Errorf("Len: %d", i.Len())
		}
		if n, ok := i.Next(); n != 0 || ok {
			t.Errorf("Next: %d, %v", n, ok)
		}
		for _, from := range []uint64{0, 1, 1 << 63, top} {
			if n, ok := i.Seek(from); n != 0 || ok {
				t.Errorf("Seek(%d): %d, %v", from, n, ok)
			}
		}
	}
}

// P11.2

// model is an iterator by the chapter's words.
type model struct {
	l  []uint64
	at int
}

func (m *model) next() (uint64, bool) {
	return m.seek(0)
}

func (m *model) seek(n uint64) (uint64, bool) {
	for m.at < len(m.l) {
		m.at++
		if m.l[m.at-1] >= n {
			return m.l[m.at-1], true
		}
	}
	return 0, false
}

// pair is an iterator and its model.
type pair struct {
	t *testing.T
	i *post.Iter
	m *model
}

func pairOf(t *testing.T, l []uint64) *pair {
	t.Helper()
	return &pair{t, opened(t, l), &model{l: l}}
}

func (p *pair) next() {
	p.t.Helper()
	n, ok := p.i.Next()
	if m, there := p.m.next(); n != m || ok != there {
		p.t.Fatalf("Next in %s: %d, %v, not %d, %v", show(p.m.l), n, ok, m, there)
	}
}

func (p *pair) seek(from uint64) {
	p.t.Helper()
	n, ok := p.i.Seek(from)
	if m, there := p.m.seek(from); n != m || ok != there {
		p.t.Fatalf("Seek(%d) in %s: %d, %v, not %d, %v", from, show(p.m.l), n, ok, m, there)
	}
}

// Behind each number of nexts a Seek from each number on, and what comes then.
func TestSeekFromAllPlaces(t *testing.T) {
	for _, n := range []int{0, 1, 2, 31, 32, 33, 64, 65, 70} {
		l := steps(n, 3, 2)
		for nexts := range n + 2 {
			for from := range uint64(2*n + 7) {
				p := pairOf(t, l)
				for range nexts {
					p.next()
				}
				p.seek(from)
				p.next()
				p.seek(from)
				p.seek(0)
				p.seek(from + 5)
				p.next()
			}
		}
	}
}

func TestSeekAtTheEnds(t *testing.T) {
	for _, l := range [][]uint64{nil, {0}, {top}, {0, top}, {top - 1, top}, {0, 1 << 63, top}, append(steps(32, 0, 1), steps(32, top-31, 1)...), steps(40, 1<<63-20, 1)} {
		for _, a := range []uint64{0, 1, 31, 32, 1<<63 - 1, 1 << 63, 1<<63 + 1, top - 31, top - 1, top} {
			for _, b := range []uint64{0, 1, 1 << 63, top - 1, top} {
				p := pairOf(t, l)
				p.seek(a)
				p.seek(b)
				p.seek(b)
				p.next()
				p.next()
				p.seek(0)
			}
		}
	}
}

// Where there is none, all are gone, and it stays so.
func TestSeekBehindTheLast(t *testing.T) {
	for _, n := range []int{0, 1, 32, 33, 100} {
		i := opened(t, steps(n, 0, 3))
		for _, from := range []uint64{uint64(3 * n), 0, top, 5, 0} {
			if x, ok := i.Seek(from); x != 0 || ok {
				t.Errorf("Seek(%d) of %d numbers: %d, %v", from, n, x, ok)
			}
			if x, ok := i.Next(); x != 0 || ok {
				t.Errorf("Next behind the end of %d numbers: %d, %v", n, x, ok)
			}
		}
	}
}

func TestLongScripts(t *testing.T) {
	r := rand.New(rand.NewSource(2))
	for range 3000 {
		l := some(r, 1+r.Intn(300), 1+r.Intn(20))
		if r.Intn(20) == 0 {
			l = nil
		}
		p := pairOf(t, l)
		for range r.Intn(60) {
			ahead := uint64(0)
			if p.m.at > 0 {
				ahead = l[p.m.at-1]
			}
			switch r.Intn(6) {
			case 0, 1:
				p.next()
			case 2:
				p.seek(uint64(r.Intn(3)))
			case 3:
				p.seek(ahead + uint64(r.Intn(5)) - 2) // near the place where it stands, also wrapped round to the top
			case 4:
				p.seek(ahead + r.Uint64()>>(44+r.Intn(20)))
			case 5:
				if len(l) > 0 {
					p.seek(l[r.Intn(len(l))])
				}
			}
		}
		if p.i.Len() != len(l) {
			t.Fatalf("Len: %d, not %d", p.i.Len(), len(l))
		}
	}
}

// P11.3

// inAll answers what And answers by the chapter's words, inOne what Or does.
func inAll(lists ...[]uint64) []uint64 {
	return slices.DeleteFunc(inOne(lists...), func(n uint64) bool {
		for _, l := range lists {
			if !slices.Contains(l, n) {
				return true
			}
		}
		return false
	})
}

func inOne(lists ...[]uint64) []uint64 {
	seen := map[uint64]int{}
	for _, l := range lists {
		for _, n := range l {
			seen[n]++
		}
	}
	return slices.Sorted(maps.Keys(seen))
}

// checkSets checks And and Or of the lists against the model.
func checkSets(t *testing.T, lists ...[]uint64) {
	t.Helper()
	if l, want := post.And(lists...), inAll(lists...); !slices.Equal(l, want) {
		t.Fatalf("And(%x): %x, not %x", lists, l, want)
	}
	if l, want := post.Or(lists...), inOne(lists...); !slices.Equal(l, want) {
		t.Fatalf("Or(%x): %x, not %x", lists, l, want)
	}
}

func TestKnownSets(t *testing.T) {
	for _, c := range []struct {
		lists   [][]uint64
		and, or []uint64
	}{
		{nil, nil, nil},
		{[][]uint64{nil}, nil, nil},
		{[][]uint64{{}, nil, {}}, nil, nil},
		{[][]uint64{{1, 2, 3}, {3, 2}, {2, 9}}, []uint64{2}, []uint64{1, 2, 3, 9}},
		{[][]uint64{{3}, {1, 3}}, []uint64{3}, []uint64{1, 3}},
		{[][]uint64{{3, 1, 3, 2, 1}}, []uint64{1, 2, 3}, []uint64{1, 2, 3}},
		{[][]uint64{{3, 3}, {3, 3, 3}}, []uint64{3}, []uint64{3}},
		{[][]uint64{{1, 2}, nil}, nil, []uint64{1, 2}},
		{[][]uint64{nil, {2, 1}}, nil, []uint64{1, 2}},
		{[][]uint64{{1, 2}, {3, 4}}, nil, []uint64{1, 2, 3, 4}},
		{[][]uint64{{top, 0}, {0, top, 1 << 63}}, []uint64{0, top}, []uint64{0, 1 << 63, top}},
		{[][]uint64{{1<<63 - 1, 1 << 63}, {1 << 63}}, []uint64{1 << 63}, []uint64{1<<63 - 1, 1 << 63}}, // they have no sign
	} {
		if l := post.And(c.lists...); !slices.Equal(l, c.and) {
			t.Errorf("And(%d): %d, not %d", c.lists, l, c.and)
		}
		if l := post.Or(c.lists...); !slices.Equal(l, c.or) {
			t.Errorf("Or(%d): %d, not %d", c.lists, l, c.or)
		}
	}
}

// Up to three lists of up to three numbers of three.
func TestAllSmallSets(t *testing.T) {
	rows := [][]uint64{nil}
	for from := 0; from < len(rows); from++ {
		if len(rows[from]) < 3 {
			for _, n := range []uint64{0, 7, top} {
				rows = append(rows, append(slices.Clone(rows[from]), n))
			}
		}
	}
	if len(rows) != 40 {
		t.Fatal(len(rows))
	}
	for _, a := range rows {
		checkSets(t, a)
		for _, b := range rows {
			checkSets(t, a, b)
			for _, c := range rows {
				checkSets(t, a, b, c)
			}
		}
	}
}

func TestSetsByChance(t *testing.T) {
	r := rand.New(rand.NewSource(7))
	for range 3000 {
		lists := make([][]uint64, r.Intn(6))
		wide := uint64(1 + r.Intn(60))
		for k := range lists {
			for range r.Intn(80) {
				lists[k] = append(lists[k], top-wide/2+r.Uint64()%wide) // round the ends
			}
		}
		checkSets(t, lists...)
	}
}

// The lists may be longer than those that have bytes, and there may be many.
func TestGreatSets(t *testing.T) {
	two, three := steps(100000, 0, 2), steps(100000, 0, 3)
	slices.Reverse(three)
	if l := post.And(two, three); !slices.Equal(l, steps(33334, 0, 6)) {
		t.Errorf("And: %s", show(l))
	}
	if l := post.Or(two, three, two); !slices.Equal(l, inOne(two, three)) {
		t.Errorf("Or: %s", show(l))
	}
	if l := post.Or(slices.Repeat([]uint64{5}, 200000)); !slices.Equal(l, []uint64{5}) {
		t.Errorf("Or of one number many times: %s", show(l))
	}
	many := make([][]uint64, 5000)
	for k := range many {
		many[k] = []uint64{uint64(k) + 1000, 7, uint64(k)}
	}
	if l := post.And(many...); !slices.Equal(l, []uint64{7}) {
		t.Errorf("And of many: %d", l)
	}
	if l := post.Or(many...); !slices.Equal(l, steps(6000, 0, 1)) {
		t.Errorf("Or of many: %s", show(l))
	}
	many[4999] = nil
	if l := post.And(many...); len(l) != 0 {
		t.Errorf("And of many and none: %d", l)
	}
}

// P11.4

// roomy answers l in memory with spare room that holds what no list here holds.
func roomy[T any](l []T, c T) []T {
	room := slices.Repeat([]T{c}, len(l)+9)
	return append(room[:0], l...)
}

// fill writes c over all of l, its spare room too.
func fill[T any](l []T, c T) {
	l = l[:cap(l)]
	for i := range l {
		l[i] = c
	}
}

// checkKept checks that l and its spare room hold what they held.
func checkKept[T comparable](t *testing.T, l, was []T, c T) {
	t.Helper()
	if !slices.Equal(l[:cap(l)], roomy(was, c)[:cap(l)]) {
		t.Errorf("%s is now %s", show(was), show(l[:cap(l)]))
	}
}

func TestWhatIsHandedInStays(t *testing.T) {
	for _, l := range [][]uint64{nil, {5}, {5, 6}, {1, 1, 0}, {9, 3, 3, 7}, steps(32, 0, 1), steps(33, 0, 5), steps(100, 0, 3), {top, 0, top}} {
		given, other := roomy(l, 77), roomy([]uint64{6, 5, 9}, 77)
		post.Write(given)
		post.And(given)
		post.Or(given)
		post.And(given, other)
		post.And(other, given, given)
		post.Or(other, given, nil, given)
		checkKept(t, given, l, 77)
		checkKept(t, other, []uint64{6, 5, 9}, 77)
		row := [][]uint64{given, other, given}
		post.And(row...)
		post.Or(row...)
		for k, want := range [][]uint64{given, other, given} {
			if len(row[k]) != len(want) || &row[k][:1][0] != &want[:1][0] {
				t.Errorf("the row of lists was changed at %d", k)
			}
		}
		for _, b := range [][]byte{bytesOf(l), bytesOf(l)[:len(bytesOf(l))/2]} {
			given := roomy(b, 0xcc)
			i, _ := post.Open(given)
			i.Next()
			i.Seek(50)
			rest(i)
			checkKept(t, given, b, 0xcc)
		}
	}
}

func TestWriteAnswersNewMemory(t *testing.T) {
	for _, l := range [][]uint64{nil, {0}, {5, 6}, steps(33, 0, 5), steps(300, 0, 1)} {
		given := slices.Clone(l)
		one, _ := post.Write(given)
		two, _ := post.Write(given)
		fill(given, 99)
		fill(one, 0xee)
		if !bytes.Equal(two, bytesOf(l)) {
			t.Errorf("the bytes of %s share memory", show(l))
		}
		if again, e := post.Write(l); !bytes.Equal(again, bytesOf(l)) || e != api.OK {
			t.Errorf("Write(%s) behind a change of its last answer: %s", show(l), show(again))
		}
	}
}

func TestOpenKeepsNothing(t *testing.T) {
	for _, l := range [][]uint64{{5}, {5, 6}, steps(32, 0, 1), steps(33, 0, 5), steps(300, 0, 3)} {
		b := roomy(bytesOf(l), 0xcc)
		one, _ := post.Open(b)
		two, _ := post.Open(b)
		first, _ := two.Next()
		fill(b, 0xff)
		if got := rest(one); !slices.Equal(got, l) {
			t.Errorf("%s became %s with the bytes", show(l), show(got))
		}
		if got := append([]uint64{first}, rest(two)...); !slices.Equal(got, l) { // another iterator went on
			t.Errorf("%s became %s", show(l), show(got))
		}
	}
}

func TestSetsAnswerNewMemory(t *testing.T) {
	for _, l := range [][]uint64{{5}, {5, 6}, {6, 5}, {7, 7}, steps(100, 0, 3)} {
		want := inOne(l)
		for _, f := range []func(lists ...[]uint64) []uint64{post.And, post.Or} {
			for _, given := range [][][]uint64{{roomy(l, 77)}, {roomy(l, 77), roomy(l, 77)}, {l, roomy(l, 77), l}} {
				was := slices.Clone(l)
				one, two := f(given...), f(given...)
				fill(one, 66)
				for _, g := range given {
					if !slices.Equal(g, was) {
						t.Errorf("an answer shares memory with %s", show(was))
					}
				}
				if !slices.Equal(two, want) {
					t.Errorf("two answers of %s share memory", show(was))
				}
			}
			given := roomy(l, 77)
			answer := f(given, given)
			fill(given, 66)
			if !slices.Equal(answer, want) {
				t.Errorf("an answer lies in %s", show(l))
			}
		}
	}
}

// What a call answers hangs on its arguments alone: many at once answer as one does.
func TestManyAtOnce(t *testing.T) {
	l := steps(200, 5, 4)
	b := bytesOf(l)
	var all sync.WaitGroup
	for range 8 {
		all.Go(func() {
			for range 200 {
				w, _ := post.Write(l)
				i, e := post.Open(b)
				if !bytes.Equal(w, b) || e != api.OK {
					t.Error("Write or Open")
					return
				}
				if got := rest(i); !slices.Equal(got, l) || !slices.Equal(post.And(l, l), l) || !slices.Equal(post.Or(l, l), l) {
					t.Error("the numbers")
					return
				}
			}
		})
	}
	all.Wait()
}

func TestLimitsAreThoseOfTheDocument(t *testing.T) {
	if api.MaxList != 65536 || api.ErrArg != 1 || api.ErrNil != 2 || api.ErrMany != 3 || api.ErrForm != 6 {
		t.Error("a limit or an error is another one")
	}
}

// The chapter's examples

func TestExamples(t *testing.T) {
	if b, e := post.Write(nil); string(b) != "\x00" || e != api.OK {
		t.Errorf("% x, %d", b, e)
	}
	if b, e := post.Write([]uint64{5, 6}); string(b) != "\x01\x06\x03\x02\x05\x00" || e != api.OK {
		t.Errorf("% x, %d", b, e)
	}
	i, e := post.Open([]byte("\x01\x06\x03\x02\x05\x00"))
	if e != api.OK {
		t.Fatal(e)
	}
	if n, ok := i.Next(); n != 5 || !ok {
		t.Errorf("%d, %v", n, ok)
	}
	if n, ok := i.Seek(6); n != 6 || !ok {
		t.Errorf("%d, %v", n, ok)
	}
	if n, ok := i.Next(); n != 0 || ok {
		t.Errorf("%d, %v", n, ok)
	}
	checkForm(t, []byte("\x01\x07\x03\x02\x05\x00"))
	if l := post.And([]uint64{1, 2, 3}, []uint64{3, 2}, []uint64{2, 9}); !slices.Equal(l, []uint64{2}) {
		t.Errorf("%d", l)
	}
	if l := post.Or([]uint64{3}, []uint64{1, 3}); !slices.Equal(l, []uint64{1, 3}) {
		t.Errorf("%d", l)
	}
	if l := post.And(); len(l) != 0 {
		t.Errorf("%d", l)
	}
}
