package frame_test

import (
	"bytes"
	"fmt"
	"hash/crc32"
	"math"
	"math/rand"
	"testing"

	"garner/api"
	"garner/frame"
)

// sum answers the checksum by the chapter's words, bit by bit.
func sum(b []byte) uint32 {
	c := uint32(math.MaxUint32)
	for _, x := range b {
		c ^= uint32(x)
		for range 8 {
			if c%2 == 1 {
				c = c/2 ^ 0xedb88320
			} else {
				c /= 2
			}
		}
	}
	return c ^ math.MaxUint32
}

// length answers the shortest form of n.
func length(n uint64) []byte {
	var b []byte
	for ; n >= 128; n /= 128 {
		b = append(b, byte(n%128+128))
	}
	return append(b, byte(n))
}

// tail answers a checksum's four bytes.
func tail(c uint32) []byte {
	return []byte{byte(c), byte(c / 256), byte(c / 65536), byte(c / 16777216)}
}

// join lays parts one behind the other, in memory of its own and without spare room.
func join(parts ...[]byte) []byte {
	b := bytes.Join(parts, nil)
	return b[:len(b):len(b)]
}

// framed answers the frame of a payload by the chapter's words.
func framed(payload []byte) []byte {
	return join(length(uint64(len(payload))), payload, tail(sum(payload)))
}

// some makes n bytes from a fixed seed.
func some(n int) []byte {
	b := make([]byte, n)
	rand.New(rand.NewSource(int64(n))).Read(b)
	return b
}

// sizes are those at which the length takes another byte, those about them, and the greatest.
func sizes() []int {
	return []int{0, 1, 2, 3, 4, 5, 126, 127, 128, 129, 255, 256, 16383, 16384, 16385, 65535, 65536}
}

// payloads are bytes of all the sizes: random ones, zeroes and ones.
func payloads() [][]byte {
	var l [][]byte
	for _, n := range sizes() {
		l = append(l, some(n), make([]byte, n), bytes.Repeat([]byte{0xff}, n))
	}
	return l
}

// show tells the first bytes of b.
func show(b []byte) string {
	return fmt.Sprintf("%d bytes % x..", len(b), b[:min(len(b), 24)])
}

// P2.1

func TestSumOfKnownBytes(t *testing.T) {
	for _, c := range []struct {
		b    string
		want uint32
	}{
		{"123456789", 0xcbf43926},
		{"", 0},
		{"a", 0xe8b7be43},
		{"abc", 0x352441c2},
		{"\x00", 0xd202ef8d},
		{"\xff", 0xff000000},
		{"\x00\x00\x00\x00", 0x2144df1c},
		{"\xff\xff\xff\xff", 0xffffffff},
		{"The quick brown fox jumps over the lazy dog", 0x414fa339},
	} {
		if s := frame.Sum([]byte(c.b)); s != c.want {
			t.Errorf("Sum(%q): %08x, not %08x", c.b, s, c.want)
		}
	}
}

func TestSumOfNoPartAndEmptyParts(t *testing.T) {
	if s := frame.Sum(); s != 0 {
		t.Errorf("Sum(): %08x", s)
	}
	for n := range 5 {
		if s := frame.Sum(make([][]byte, n)...); s != 0 {
			t.Errorf("Sum of %d nil parts: %08x", n, s)
		}
	}
	if s := frame.Sum([]byte{}, nil, []byte{}); s != 0 {
		t.Errorf("Sum of empty parts: %08x", s)
	}
	a := []byte("a")
	for _, parts := range [][][]byte{{nil, a}, {a, nil}, {{}, {}, a, nil, {}}} {
		if s := frame.Sum(parts...); s != 0xe8b7be43 {
			t.Errorf("Sum(%q): %08x", parts, s)
		}
	}
}

func TestSumByItsWords(t *testing.T) {
	for x := range 256 {
		for y := range 256 {
			b := []byte{byte(x), byte(y)}
			if s := frame.Sum(b); s != sum(b) {
				t.Fatalf("Sum(% x): %08x, not %08x", b, s, sum(b))
			}
		}
	}
	for _, b := range append(payloads(), some(65537), some(200000)) {
		if s := frame.Sum(b); s != sum(b) || s != crc32.ChecksumIEEE(b) {
			t.Errorf("Sum(%s): %08x, not %08x", show(b), s, sum(b))
		}
	}
}

func TestSumOfPartsIsOfAllTogether(t *testing.T) {
	b := []byte("123456789")
	for i := range len(b) + 1 {
		for k := i; k <= len(b); k++ {
			if s := frame.Sum(b[:i], b[i:k], b[k:]); s != 0xcbf43926 {
				t.Errorf("Sum(%q, %q, %q): %08x", b[:i], b[i:k], b[k:], s)
			}
		}
	}
	var parts [][]byte
	for i := range b {
		parts = append(parts, b[i:i+1])
	}
	if s := frame.Sum(parts...); s != 0xcbf43926 {
		t.Errorf("Sum of nine parts: %08x", s)
	}
	if frame.Sum([]byte("ab"), []byte("c")) == frame.Sum([]byte("c"), []byte("ab")) {
		t.Error("the parts' order doesn't tell")
	}
	r := rand.New(rand.NewSource(2))
	for range 200 {
		all := some(r.Intn(400))
		var cut [][]byte
		for rest := all; len(rest) > 0; {
			n := r.Intn(len(rest) + 1)
			cut = append(cut, rest[:n])
			rest = rest[n:]
		}
		if s := frame.Sum(cut...); s != sum(all) {
			t.Fatalf("Sum of %d parts of %s: %08x, not %08x", len(cut), show(all), s, sum(all))
		}
	}
}

func TestSumTellsOneTurnedBit(t *testing.T) {
	b := some(40)
	was := frame.Sum(b)
	for bit := range 8 * len(b) {
		b[bit/8] ^= 1 << (bit % 8)
		if frame.Sum(b) == was {
			t.Errorf("bit %d doesn't tell", bit)
		}
		b[bit/8] ^= 1 << (bit % 8)
	}
}

// P2.2

func TestFrameOfKnownBytes(t *testing.T) {
	for _, c := range []struct{ payload, want string }{
		{"", "\x00\x00\x00\x00\x00"},
		{"a", "\x01a\x43\xbe\xb7\xe8"},
		{"123456789", "\x09123456789\x26\x39\xf4\xcb"},
	} {
		if b, e := frame.Frame([]byte(c.payload)); string(b) != c.want || e != api.OK {
			t.Errorf("Frame(%q): % x, %d", c.payload, b, e)
		}
	}
	if b, e := frame.Frame(nil); string(b) != "\x00\x00\x00\x00\x00" || e != api.OK {
		t.Errorf("Frame(nil): % x, %d", b, e)
	}
}

func TestFrameByItsWords(t *testing.T) {
	for _, p := range payloads() {
		if b, e := frame.Frame(p); !bytes.Equal(b, framed(p)) || e != api.OK {
			t.Errorf("Frame(%s): %s, %d, not %s", show(p), show(b), e, show(framed(p)))
		}
	}
}

func TestFrameLengthAtItsEdges(t *testing.T) {
	for _, c := range []struct {
		n    int
		head string
	}{
		{0, "\x00"}, {127, "\x7f"}, {128, "\x80\x01"}, {16383, "\xff\x7f"}, {16384, "\x80\x80\x01"}, {65535, "\xff\xff\x03"}, {65536, "\x80\x80\x04"},
	} {
		b, e := frame.Frame(make([]byte, c.n))
		if e != api.OK || len(b) != len(c.head)+c.n+4 || string(b[:len(c.head)]) != c.head {
			t.Errorf("Frame of %d bytes: %s, %d", c.n, show(b), e)
		}
	}
}

func TestFrameLong(t *testing.T) {
	for _, n := range []int{65537, 65538, 65536 + 128, 1 << 20} {
		if b, e := frame.Frame(make([]byte, n)); len(b) != 0 || e != api.ErrLong {
			t.Errorf("Frame of %d bytes: %s, %d", n, show(b), e)
		}
	}
	room := make([]byte, 1<<17) // bytes that aren't in the list don't count
	if b, e := frame.Frame(room[:65536]); len(b) != 65536+7 || e != api.OK {
		t.Errorf("Frame of 65536 bytes with room behind them: %s, %d", show(b), e)
	}
}

// P2.3

type got struct {
	payload string
	to      int
	e       api.Errno
}

func read(b []byte, at int) got {
	p, to, e := frame.Read(b, at)
	return got{string(p), to, e}
}

// checkRead checks what Read answers of b at a place.
func checkRead(t *testing.T, b []byte, at int, want got) {
	t.Helper()
	if g := read(b, at); g != want {
		t.Errorf("Read(%s, %d): %s, %d, %d, not %s, %d, %d", show(b), at, show([]byte(g.payload)), g.to, g.e, show([]byte(want.payload)), want.to, want.e)
	}
}

func TestReadOfKnownBytes(t *testing.T) {
	for _, c := range []struct {
		b    string
		at   int
		want got
	}{
		{"\x01a\x43\xbe\xb7\xe8", 0, got{"a", 6, api.OK}},
		{"\x00\x00\x00\x00\x00", 0, got{"", 5, api.OK}},
		{"\x00\x00\x00\x00\x00\x00\x00\x00", 3, got{"", 8, api.OK}},
		{"\x01a\x43\xbe\xb7\xe8\x01a\x43\xbe\xb7\xe8", 6, got{"a", 12, api.OK}},
		{"\x09123456789\x26\x39\xf4\xcb", 0, got{"123456789", 14, api.OK}},
		{"\x01a\x43\xbe\xb7", 0, got{e: api.ErrShort}},
		{"\x01b\x43\xbe\xb7\xe8", 0, got{e: api.ErrSum}},
		{"\x01a\xe8\xb7\xbe\x43", 0, got{e: api.ErrSum}}, // the highest byte first
		{"\x00\x00\x00\x00\x01", 0, got{e: api.ErrSum}},
		{"\x81\x80\x04", 0, got{e: api.ErrLong}},
		{"\x80\x80\x04", 0, got{e: api.ErrShort}},
		{"", 0, got{e: api.ErrShort}},
		{"\x80", 0, got{e: api.ErrShort}},
		{"\x80\x00", 0, got{e: api.ErrForm}},
	} {
		checkRead(t, []byte(c.b), c.at, c.want)
	}
	checkRead(t, nil, 0, got{e: api.ErrShort})
}

func TestReadOfFrames(t *testing.T) {
	for _, p := range payloads() {
		b := framed(p)
		checkRead(t, b, 0, got{string(p), len(b), api.OK})
	}
}

func TestReadBehindAndBeforeOtherBytes(t *testing.T) {
	for _, p := range [][]byte{nil, []byte("a"), some(127), some(128), some(65536)} {
		f := framed(p)
		for _, before := range [][]byte{nil, {0}, {0xff}, framed([]byte("x")), some(300)} {
			for _, behind := range [][]byte{nil, {0}, {0xff}, framed([]byte("y")), some(70000)} {
				checkRead(t, join(before, f, behind), len(before), got{string(p), len(before) + len(f), api.OK})
			}
		}
	}
}

func TestReadOneBehindTheOther(t *testing.T) {
	var b []byte
	for _, p := range payloads() {
		f, e := frame.Frame(p)
		if e != api.OK {
			t.Fatal(e)
		}
		b = append(b, f...)
	}
	at := 0
	for _, p := range payloads() {
		checkRead(t, b, at, got{string(p), at + len(framed(p)), api.OK})
		at += len(framed(p))
	}
	checkRead(t, b, at, got{e: api.ErrShort})
}

func TestReadEachShorterBeginning(t *testing.T) {
	for _, n := range []int{0, 1, 4, 127, 128, 300, 16384} {
		f := framed(some(n))
		for k := range f {
			checkRead(t, f[:k:k], 0, got{e: api.ErrShort})
			checkRead(t, f[:k], 0, got{e: api.ErrShort}) // what stands in the spare room isn't read
			checkRead(t, join([]byte{7, 7}, f[:k]), 2, got{e: api.ErrShort})
		}
	}
	f := framed(some(65536))
	for _, k := range []int{0, 1, 2, 3, 4, 65535, 65536, 65538, 65539, 65540, 65542} {
		checkRead(t, f[:k:k], 0, got{e: api.ErrShort})
	}
}

func TestReadPlaces(t *testing.T) {
	for _, b := range [][]byte{nil, {}, {0}, framed(nil), framed([]byte("a")), framed(some(200)), some(9)} {
		for _, at := range []int{math.MinInt, -2, -1, len(b) + 1, len(b) + 2, math.MaxInt - 4, math.MaxInt} {
			checkRead(t, b, at, got{e: api.ErrArg})
		}
		checkRead(t, b, len(b), got{e: api.ErrShort})
	}
	f := framed([]byte("a"))
	checkRead(t, f[:3], 4, got{e: api.ErrArg})
}

func TestReadOneTurnedBit(t *testing.T) {
	for _, n := range []int{0, 1, 5, 127, 128, 200} {
		p := some(n)
		f := framed(p)
		head := len(length(uint64(n)))
		for bit := 8 * head; bit < 8*len(f); bit++ {
			f[bit/8] ^= 1 << (bit % 8)
			checkRead(t, f, 0, got{e: api.ErrSum})
			checkRead(t, join([]byte{0}, f, []byte{0}), 1, got{e: api.ErrSum})
			f[bit/8] ^= 1 << (bit % 8)
		}
		checkRead(t, f, 0, got{string(p), len(f), api.OK})
	}
	f := framed(some(65536))
	for _, i := range []int{3, 4, 30000, 65538, 65539, 65540, 65541, 65542} {
		f[i] ^= 0x10
		checkRead(t, f, 0, got{e: api.ErrSum})
		f[i] ^= 0x10
	}
}

// The checksum is the payload's alone: neither its length's nor that of bytes about it.
func TestReadSumOfOtherBytes(t *testing.T) {
	p := []byte("payload")
	l := length(uint64(len(p)))
	checkRead(t, join(l, p, tail(sum(join(l, p)))), 0, got{e: api.ErrSum})
	checkRead(t, join([]byte("x"), l, p, tail(sum(join([]byte("x"), l, p)))), 1, got{e: api.ErrSum})
	checkRead(t, join(l, p, tail(^sum(p))), 0, got{e: api.ErrSum})
	checkRead(t, join(l, p, tail(0)), 0, got{e: api.ErrSum})
}

func TestReadLong(t *testing.T) {
	p := some(70000)
	for _, n := range []uint64{65537, 65538, 70000, 1 << 17, 1 << 31, 1<<31 - 1, 1 << 32, 1<<32 + 1, 1 << 62, 1<<63 - 4, 1<<63 - 1, 1 << 63, 1<<63 + 1, math.MaxUint64 - 4, math.MaxUint64} {
		l := length(n)
		checkRead(t, l, 0, got{e: api.ErrLong})
		checkRead(t, join([]byte{9}, l, []byte{1, 2, 3, 4}), 1, got{e: api.ErrLong})
		checkRead(t, join(l, p), 0, got{e: api.ErrLong})
	}
	checkRead(t, framed(some(65537)), 0, got{e: api.ErrLong}) // all of it is there, and right but for its length
	for _, n := range []uint64{65535, 65536} {
		checkRead(t, length(n), 0, got{e: api.ErrShort})
	}
}

func TestReadLengthInMoreBytes(t *testing.T) {
	p := []byte("a")
	rest := join(p, tail(sum(p)))
	for _, l := range []string{"\x81\x00", "\x81\x80\x00", "\x81\x80\x80\x80\x80\x80\x80\x80\x80\x00", "\x81\x80\x80\x80\x80\x80\x80\x80\x80\x02", "\x81\x80\x80\x80\x80\x80\x80\x80\x80\x80\x00"} {
		checkRead(t, join([]byte(l), rest), 0, got{e: api.ErrForm})
		checkRead(t, join([]byte("xy"), []byte(l), rest), 2, got{e: api.ErrForm})
	}
	checkRead(t, []byte("\x80\x00\x00\x00\x00\x00"), 0, got{e: api.ErrForm})
	checkRead(t, bytes.Repeat([]byte{0xff}, 9), 0, got{e: api.ErrShort})
	checkRead(t, bytes.Repeat([]byte{0xff}, 10), 0, got{e: api.ErrForm})
}

// wanted answers what the chapter's words say of Read, of b from its beginning on, if the length has at most three bytes.
func wanted(b []byte) got {
	n, i := 0, 0
	for ; ; i++ {
		if i == len(b) {
			return got{e: api.ErrShort}
		}
		n += int(b[i]%128) << (7 * i)
		if b[i] < 128 {
			break
		}
	}
	if b[i] == 0 && i > 0 {
		return got{e: api.ErrForm}
	}
	if n > 65536 {
		return got{e: api.ErrLong}
	}
	end := i + 1 + n
	if len(b) < end+4 {
		return got{e: api.ErrShort}
	}
	if !bytes.Equal(b[end:end+4], tail(sum(b[i+1:end]))) {
		return got{e: api.ErrSum}
	}
	return got{string(b[i+1 : end]), end + 4, api.OK}
}

func TestReadOfAnyBytes(t *testing.T) {
	from := []byte{0, 1, 2, 0x7f, 0x80, 0x81, 0xff}
	var grow func(b []byte)
	grow = func(b []byte) {
		if w := wanted(b); read(b, 0) != w {
			checkRead(t, b, 0, w)
		}
		if len(b) < 7 {
			for _, c := range from {
				grow(append(b, c))
			}
		}
	}
	grow(make([]byte, 0, 8))
	for x := range 1 << 21 {
		b := []byte{byte(x | 128), byte(x>>7 | 128), byte(x >> 14 & 127)}
		if w := wanted(b); read(b, 0) != w {
			checkRead(t, b, 0, w)
		}
	}
}

// P2.4

func TestSumAndFrameLeaveTheirLists(t *testing.T) {
	room := some(600)
	keep := bytes.Clone(room)
	frame.Sum(room[:10], room[20:30], room[:0])
	for _, n := range []int{0, 1, 100, 127, 128, 300} {
		frame.Frame(room[:n])
	}
	if !bytes.Equal(room, keep) {
		t.Error("bytes were changed")
	}
	parts := [][]byte{[]byte("ab"), nil, []byte("c")}
	frame.Sum(parts[:2]...)
	frame.Sum(parts...)
	if string(parts[0]) != "ab" || parts[1] != nil || string(parts[2]) != "c" {
		t.Errorf("Sum changed its parts to %q", parts)
	}
}

func TestReadLeavesItsList(t *testing.T) {
	f := framed(some(200))
	for _, b := range [][]byte{some(600), join(f, some(600)), join([]byte{0xff, 0x80}, f, some(600))} {
		keep := bytes.Clone(b)
		for at := -1; at <= len(b)+1; at++ {
			frame.Read(b, at)
			frame.Read(b[:len(f)], at)
		}
		for k := range b {
			frame.Read(b[:k], 0)
			frame.Read(b[:k], 2)
		}
		if !bytes.Equal(b, keep) {
			t.Errorf("Read changed %s", show(keep))
		}
	}
}

// fill writes c over all of b, its spare room too.
func fill(b []byte, c byte) {
	b = b[:cap(b)]
	for i := range b {
		b[i] = c
	}
}

func TestFrameAnswersNewMemory(t *testing.T) {
	rows := payloads()
	var answers [][]byte
	for range 2 {
		for _, p := range rows {
			b, _ := frame.Frame(p)
			answers = append(answers, b)
		}
	}
	for i, b := range answers {
		p := rows[i%len(rows)]
		keep := bytes.Clone(p)
		if !bytes.Equal(b, framed(p)) {
			t.Errorf("the frame of %s was changed through another answer", show(p))
		}
		fill(b, 0xee)
		if !bytes.Equal(p, keep) {
			t.Errorf("the frame of %s shares its memory", show(keep))
		}
	}
}

func TestReadAnswersNewMemory(t *testing.T) {
	for _, n := range []int{0, 1, 127, 128, 65536} {
		p := some(n)
		b := framed(p)
		keep := bytes.Clone(b)
		one, _, _ := frame.Read(b, 0)
		two, _, _ := frame.Read(b, 0)
		fill(one, 0xee)
		if !bytes.Equal(b, keep) {
			t.Errorf("a payload of %d bytes shares memory with what was read", n)
		}
		if !bytes.Equal(two, p) {
			t.Errorf("two payloads of %d bytes share memory", n)
		}
		fill(b, 0xdd)
		if !bytes.Equal(two, p) {
			t.Errorf("a payload of %d bytes is kept in what was read", n)
		}
	}
}
