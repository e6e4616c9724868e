package lz_test

import (
	"bytes"
	"encoding/binary"
	"fmt"
	"math"
	"math/rand"
	"slices"
	"strings"
	"sync"
	"testing"

	"garner/api"
	"garner/lz"
	"garner/varint"
)

// number answers the shortest forms of ns, one behind the other.
func number(ns ...uint64) []byte {
	var b []byte
	for _, n := range ns {
		b = binary.AppendUvarint(b, n)
	}
	return b
}

// plain answers the part that lays s.
func plain(s string) []byte {
	return append(number(uint64(len(s))*2), s...)
}

// echo answers the part that lays length bytes from so far back.
func echo(length, distance uint64) []byte {
	return number(length*2+1, distance)
}

// block answers a compressed block that becomes n bytes.
func block(n uint64, parts ...[]byte) []byte {
	return join(number(n), join(parts...))
}

// join lays parts one behind the other, in memory of its own and without spare room.
func join(parts ...[]byte) []byte {
	b := bytes.Join(parts, nil)
	return b[:len(b):len(b)]
}

// noise answers n bytes from a fixed seed.
func noise(n int) []byte {
	b := make([]byte, n)
	rand.New(rand.NewSource(int64(n))).Read(b)
	return b
}

// cycle answers n bytes that repeat a row of different bytes with that distance.
func cycle(n, distance int) []byte {
	row := make([]byte, distance)
	for i := range row {
		row[i] = byte(i*7 + i/256)
	}
	return bytes.Repeat(row, n/distance+1)[:n]
}

// show tells the first bytes of b.
func show(b []byte) string {
	return fmt.Sprintf("%d of % x..", len(b), b[:min(len(b), 24)])
}

// P4.1

// wanted answers what the chapter's words say of Expand.
func wanted(b []byte, most int) ([]byte, api.Errno) {
	size, at, e := varint.Get(b, 0)
	if e != api.OK {
		return nil, e
	}
	if size > 65536 || most < 0 || size > uint64(most) {
		return nil, api.ErrLong
	}
	var laid []byte
	for at < len(b) {
		p, next, e := varint.Get(b, at)
		if e != api.OK {
			return nil, e
		}
		at = next
		n := p / 2
		if n == 0 || p%2 == 1 && n < 4 || uint64(len(laid))+n > size {
			return nil, api.ErrForm
		}
		if p%2 == 0 {
			if uint64(len(b)-at) < n {
				return nil, api.ErrShort
			}
			laid = append(laid, b[at:at+int(n)]...)
			at += int(n)
			continue
		}
		distance, next, e := varint.Get(b, at)
		if e != api.OK {
			return nil, e
		}
		at = next
		if distance == 0 || distance > uint64(len(laid)) {
			return nil, api.ErrForm
		}
		for range n {
			laid = append(laid, laid[uint64(len(laid))-distance])
		}
	}
	if uint64(len(laid)) < size {
		return nil, api.ErrShort
	}
	return laid, api.OK
}

// checkExpand checks what Expand answers of b.
func checkExpand(t *testing.T, b []byte, most int, want []byte, e api.Errno) {
	t.Helper()
	if x, f := lz.Expand(b, most); !bytes.Equal(x, want) || f != e {
		t.Errorf("Expand(%s, %d): %s, %d, not %s, %d", show(b), most, show(x), f, show(want), e)
	}
}

// checkWords checks that Expand answers what the chapter's words say.
func checkWords(t *testing.T, b []byte, most int) {
	t.Helper()
	want, e := wanted(b, most)
	checkExpand(t, b, most, want, e)
}

func TestExpandOfKnownBlocks(t *testing.T) {
	for _, c := range []struct {
		b    string
		most int
		want string
		e    api.Errno
	}{
		{"\x00", 0, "", api.OK},
		{"\x00", 9, "", api.OK},
		{"\x01\x02a", 1, "a", api.OK},
		{"\x03\x06abc", 3, "abc", api.OK},
		{"\x03\x06abc", 2, "", api.ErrLong},
		{"\x03\x02a\x04bc", 9, "abc", api.OK},
		{"\x03\x02a\x02b\x02c", 9, "abc", api.OK},
		{"\x06\x02a\x0b\x01", 9, "aaaaaa", api.OK},
		{"\x06\x04ab\x09\x02", 9, "ababab", api.OK},
		{"\x07\x06abc\x09\x03", 9, "abcabca", api.OK},
		{"\x07\x06abc\x09\x02", 9, "abcbcbc", api.OK},
		{"\x07\x06abc\x09\x01", 9, "abccccc", api.OK},
		{"\x08\x08abcd\x09\x04", 9, "abcdabcd", api.OK},
		{"\x09\x08abcd\x09\x04\x02z", 9, "abcdabcdz", api.OK},
		{"\x0a\x02a\x09\x01\x02b\x09\x03", 10, "aaaaabaaba", api.OK},
		{"\x09\x02a\x09\x01\x09\x05", 9, "aaaaaaaaa", api.OK},
		{"\x06\x02a\x09\x01", 9, "", api.ErrShort},
		{"\x06\x02a\x0b\x02", 9, "", api.ErrForm},
		{"\x03\x00", 9, "", api.ErrForm},
	} {
		checkExpand(t, []byte(c.b), c.most, []byte(c.want), c.e)
	}
}

func TestExpandOfNoSize(t *testing.T) {
	checkExpand(t, nil, 9, nil, api.ErrShort)
	for _, c := range []struct {
		b string
		e api.Errno
	}{
		{"", api.ErrShort},
		{"\x80", api.ErrShort},
		{"\xff\xff\xff", api.ErrShort},
		{"\x80\x00", api.ErrForm},
		{"\x83\x00\x06abc", api.ErrForm},
		{"\x83\x80\x00\x06abc", api.ErrForm},
		{strings.Repeat("\xff", 9) + "\x02", api.ErrForm},
		{strings.Repeat("\x80", 10), api.ErrForm},
	} {
		for _, most := range []int{math.MinInt, -1, 0, 2, 3, 65536, math.MaxInt} { // of two errors it is this one
			checkExpand(t, []byte(c.b), most, nil, c.e)
		}
	}
}

func TestExpandMost(t *testing.T) {
	for _, n := range []int{0, 1, 2, 5, 63, 64, 127, 128, 300, 16383, 16384, 65535, 65536} {
		want := noise(n)
		b := number(uint64(n))
		if n > 0 {
			b = append(b, plain(string(want))...)
		}
		for _, most := range []int{n, n + 1, 65535, 65536, 65537, 1 << 40, math.MaxInt} {
			if most >= n {
				checkExpand(t, b, most, want, api.OK)
			}
		}
		for _, most := range []int{n - 1, n / 2, 0, -1, -2, -n, -65536, math.MinInt + 1, math.MinInt} {
			if most < n {
				checkExpand(t, b, most, nil, api.ErrLong)
			}
		}
	}
}

func TestExpandMoreThanMaxBlock(t *testing.T) {
	for _, n := range []uint64{65537, 65538, 70000, 1 << 17, 1<<32 + 1, 1<<63 - 1, 1 << 63, math.MaxUint64 - 1, math.MaxUint64} {
		for _, most := range []int{math.MinInt, -1, 0, 65536, 65537, 70000, math.MaxInt} {
			checkExpand(t, block(n), most, nil, api.ErrLong)
			checkExpand(t, block(n, plain("a"), echo(n-1, 1)), most, nil, api.ErrLong)
		}
	}
	checkExpand(t, block(65537, plain(string(noise(65537)))), 65537, nil, api.ErrLong)
	checkExpand(t, block(65536, plain("a"), echo(65535, 1)), 65536, bytes.Repeat([]byte("a"), 65536), api.OK)
}

// Of two errors it is the one of how many bytes it becomes.
func TestExpandTooLongAheadOfItsParts(t *testing.T) {
	for _, parts := range []string{"", "\x00", "\x01", "\x80", "\x80\x00", "\x02", "\x07\x01", "\x09", "\x09\x00", "\x02a\x09\x02", "\xff"} {
		for _, n := range []uint64{3, 9, 65537, math.MaxUint64} {
			checkExpand(t, block(n, []byte(parts)), 2, nil, api.ErrLong)
		}
	}
}

func TestExpandOfParts(t *testing.T) {
	long := "\xff\xff\xff\xff\xff\xff\xff\xff\xff\x01" // 2^64 - 1: an odd part
	even := "\xfe\xff\xff\xff\xff\xff\xff\xff\xff\x01" // 2^64 - 2
	for _, c := range []struct {
		size  uint64
		ahead string // the bytes of a part ahead
		parts string
		e     api.Errno
	}{
		{9, "", "\x80", api.ErrShort}, // a part's number
		{9, "", "\x82\x80", api.ErrShort},
		{9, "", "\x82\x00a", api.ErrForm},
		{9, "", "\x80\x00", api.ErrForm},
		{9, "a", "\x89\x00\x01", api.ErrForm},
		{9, "", strings.Repeat("\xff", 9) + "\x02", api.ErrForm},
		{9, "", "\x00", api.ErrForm}, // no byte, or too few
		{9, "", "\x01", api.ErrForm},
		{9, "a", "\x00", api.ErrForm},
		{9, "a", "\x01\x01", api.ErrForm},
		{9, "a", "\x03\x01", api.ErrForm},
		{9, "a", "\x05\x01", api.ErrForm},
		{9, "a", "\x07\x01", api.ErrForm},
		{9, "a", "\x07", api.ErrForm},
		{9, "a", "\x01", api.ErrForm},
		{9, "a", "\x07\x80\x00", api.ErrForm},
		{2, "a", "\x05\x01", api.ErrForm}, // it would lay just what is left
		{3, "a", "\x05\x01", api.ErrForm},
		{4, "a", "\x07\x01", api.ErrForm},
		{3, "", "\x08abcd", api.ErrForm}, // it would lay more
		{3, "", "\x08abc", api.ErrForm},
		{3, "", "\x08", api.ErrForm},
		{3, "ab", "\x04cd", api.ErrForm},
		{3, "ab", "\x04c", api.ErrForm},
		{3, "ab", "\x04", api.ErrForm},
		{4, "a", "\x09\x01", api.ErrForm},
		{4, "a", "\x09", api.ErrForm},
		{4, "a", "\x09\x80", api.ErrForm},
		{4, "a", "\x09\x00", api.ErrForm},
		{9, "a", "\x13\x01", api.ErrForm},
		{9, "", even + "abc", api.ErrForm},
		{9, "a", even, api.ErrForm},
		{9, "a", long, api.ErrForm},
		{9, "a", long + "\x01", api.ErrForm},
		{65536, "", even, api.ErrForm},
		{65536, "a", long + "\x01", api.ErrForm},
		{65536, "a", string(number(65536 * 2)), api.ErrForm},
		{65536, "a", string(echo(65536, 1)), api.ErrForm},
		{0, "", "\x02a", api.ErrForm},
		{0, "", "\x09\x01", api.ErrForm},
		{3, "", "\x06", api.ErrShort}, // its bytes aren't all there
		{3, "", "\x06a", api.ErrShort},
		{3, "", "\x06ab", api.ErrShort},
		{3, "ab", "\x02", api.ErrShort},
		{65536, "", string(number(65536*2)) + "abc", api.ErrShort},
		{9, "a", "\x09", api.ErrShort}, // a distance
		{9, "a", "\x09\x80", api.ErrShort},
		{9, "a", "\x09\x80\x00", api.ErrForm},
		{9, "a", "\x09\x81\x00", api.ErrForm},
		{9, "a", "\x09" + strings.Repeat("\x80", 9) + "\x02", api.ErrForm},
		{9, "a", "\x09\x00", api.ErrForm},
		{9, "a", "\x09\x02", api.ErrForm},
		{9, "a", "\x09\x05", api.ErrForm}, // what the part itself lays doesn't count
		{9, "a", "\x09" + long, api.ErrForm},
		{9, "a", "\x09" + even, api.ErrForm},
		{9, "a", "\x09\x80\x80\x80\x80\x80\x80\x80\x80\x80\x01", api.ErrForm}, // 2^63
		{9, "a", "\x09\x81\x80\x80\x80\x10", api.ErrForm},                     // 2^32 + 1
		{9, "", "\x09\x01", api.ErrForm},
		{9, "", "\x09\x00", api.ErrForm},
		{9, "", "\x09", api.ErrShort},
		{9, "abc", "\x09\x04", api.ErrForm},
		{9, "", "", api.ErrShort}, // too few are laid
		{9, "a", "", api.ErrShort},
		{9, "a", "\x09\x01", api.ErrShort},
		{6, "a", "\x09\x01", api.ErrShort},
		{9, "a", "\x0d\x01\x02b", api.ErrShort},
		{1, "", "", api.ErrShort},
		{65536, "", "", api.ErrShort},
		{65536, "a", string(echo(65534, 1)), api.ErrShort},
	} {
		b := number(c.size)
		if c.ahead != "" {
			b = append(b, plain(c.ahead)...)
		}
		b = join(b, []byte(c.parts))
		for _, most := range []int{int(c.size), 65536, math.MaxInt} {
			checkExpand(t, b, most, nil, c.e)
		}
	}
}

func TestExpandOfEchoesByLength(t *testing.T) {
	for n := range uint64(300) {
		e := api.OK
		if n < 4 {
			e = api.ErrForm
		}
		want := bytes.Repeat([]byte("ab"), int(n)/2+2)[:n+2]
		if e != api.OK {
			want = nil
		}
		checkExpand(t, block(n+2, plain("ab"), echo(n, 2)), 65536, want, e)
	}
}

func TestExpandOfPlainPartsByLength(t *testing.T) {
	for _, n := range []int{1, 2, 3, 4, 5, 62, 63, 64, 65, 127, 128, 8191, 8192, 8193, 16383, 16384, 65535} {
		want := noise(n)
		size := uint64(n)
		part := plain(string(want))
		checkExpand(t, block(size, part), n, want, api.OK)
		checkExpand(t, block(size+1, plain("a"), part), n+1, append([]byte("a"), want...), api.OK)
		checkExpand(t, block(size+1, part, plain("a")), n+1, append(bytes.Clone(want), 'a'), api.OK)
		checkExpand(t, block(size, part[:len(part)-1]), n, nil, api.ErrShort)
		checkExpand(t, block(size+1, part), n+1, nil, api.ErrShort)
		checkExpand(t, block(size-1, part), n, nil, api.ErrForm)
		checkExpand(t, block(size, plain("a"), part), n, nil, api.ErrForm)
		checkExpand(t, block(size, part, plain("a")), n, nil, api.ErrForm)
	}
}

// Each distance up to what is laid may stand there, and none above; a part may lap over itself or not.
func TestExpandOfDistances(t *testing.T) {
	for laid := uint64(1); laid < 40; laid++ {
		ahead := plain(string(noise(40)[:laid]))
		for distance := range laid + 3 {
			for _, n := range []uint64{4, 5, distance - 1, distance, distance + 1, 2 * distance, 2*distance + 1, 7*distance + 3} {
				if n > 1000 || n < 4 {
					continue
				}
				b := block(laid+n, ahead, echo(n, distance))
				if distance == 0 || distance > laid {
					checkExpand(t, b, 65536, nil, api.ErrForm)
					continue
				}
				checkWords(t, b, 65536)
				if x, e := lz.Expand(b, 65536); e != api.OK || uint64(len(x)) != laid+n {
					t.Errorf("Expand(%s): %s, %d", show(b), show(x), e)
				}
			}
		}
	}
}

func TestExpandOfFarDistances(t *testing.T) {
	ahead := noise(65000)
	for _, distance := range []uint64{127, 128, 129, 255, 256, 16383, 16384, 16385, 32767, 32768, 64999, 65000} {
		for _, n := range []uint64{4, 63, 64, 300, 536} {
			from := 65000 - int(distance)
			row := ahead[from:]
			want := append(bytes.Clone(ahead), bytes.Repeat(row, int(n)/len(row)+1)[:n]...)
			checkExpand(t, block(65000+n, plain(string(ahead)), echo(n, distance)), 65536, want, api.OK)
		}
	}
	for _, distance := range []uint64{0, 65001, 65002, 65536, 1 << 17, 1 << 32, 1<<32 + 1} {
		checkExpand(t, block(65004, plain(string(ahead)), echo(4, distance)), 65536, nil, api.ErrForm)
	}
}

func TestExpandOfBytesBehindTheLastPart(t *testing.T) {
	for _, b := range blocks() {
		want, e := wanted(b, 65536)
		if e != api.OK {
			t.Fatalf("%s is no block", show(b))
		}
		checkExpand(t, b, len(want), want, api.OK)
		for _, c := range []struct {
			behind string
			e      api.Errno
		}{
			{"\x00", api.ErrForm}, {"\x01", api.ErrForm}, {"\x02", api.ErrForm}, {"\x02a", api.ErrForm}, {"\x09\x01", api.ErrForm},
			{"\x07\x01", api.ErrForm}, {"\x80", api.ErrShort}, {"\xff\x80", api.ErrShort}, {"\x80\x00", api.ErrForm}, {"\x00\x00\x00", api.ErrForm},
		} {
			checkExpand(t, join(b, []byte(c.behind)), 65536, nil, c.e)
		}
	}
}

// blocks are compressed ones of all kinds.
func blocks() [][]byte {
	return [][]byte{
		block(0),
		block(1, plain("a")),
		block(3, plain("abc")),
		block(3, plain("a"), plain("b"), plain("c")),
		block(6, plain("a"), echo(5, 1)),
		block(6, plain("ab"), echo(4, 2)),
		block(16, plain("abcd"), echo(4, 4), echo(8, 8)),
		block(22, plain("abcdef"), echo(6, 6), plain("\x00\xff"), echo(8, 14)),
		block(300, plain("ab"), echo(298, 2)),
		block(300, plain(string(noise(150))), echo(150, 150)),
		block(1000, plain(string(noise(300))), echo(100, 250), plain("\x80"), echo(5, 9), plain("xyz"), echo(591, 400)),
		block(20000, plain(string(noise(17000))), echo(100, 16999), plain("abc"), echo(2897, 200)),
		block(65536, plain("a"), echo(65535, 1)),
	}
}

func TestExpandOfShorterBeginnings(t *testing.T) {
	for _, b := range blocks() {
		for k := range b {
			want, e := wanted(b[:k:k], 65536)
			if e != api.ErrShort {
				t.Fatalf("%s is a block, short by %d bytes", show(b), len(b)-k)
			}
			checkExpand(t, b[:k:k], 65536, want, e)
			checkExpand(t, b[:k], 65536, want, e) // bytes behind its end aren't the block's
		}
	}
}

func TestExpandOfChangedBytes(t *testing.T) {
	for _, b := range blocks() {
		if len(b) > 2000 {
			continue
		}
		for i := range b {
			changed := bytes.Clone(b)
			for _, c := range []byte{0, 1, 2, 3, 4, 6, 7, 8, 9, 0x0b, 0x7f, 0x80, 0x81, 0xff, b[i] - 2, b[i] - 1, b[i] + 1, b[i] + 2, b[i] ^ 0x80} {
				changed[i] = c
				checkWords(t, changed, 65536)
				checkWords(t, changed, 300)
			}
		}
	}
}

// everyRow calls f with all rows of at most n bytes of those in from.
func everyRow(n int, from []byte, f func([]byte)) {
	row := make([]byte, 0, n)
	var grow func()
	grow = func() {
		f(row)
		if len(row) == n {
			return
		}
		for _, c := range from {
			row = append(row, c)
			grow()
			row = row[:len(row)-1]
		}
	}
	grow()
}

func TestExpandOfAllRows(t *testing.T) {
	everyRow(5, []byte{0, 1, 2, 3, 4, 5, 7, 9, 0x0b, 0x80, 0xff}, func(b []byte) {
		checkWords(t, b, 4)
		checkWords(t, b, 65536)
	})
	for _, ahead := range []string{"\x05\x02a", "\x06\x04ab", "\x0c\x02a\x0b\x01", "\x80\x01\x02\x01", "\x0a\x08\x00\x01\x02\x03"} {
		everyRow(4, []byte{0, 1, 2, 3, 4, 6, 7, 8, 9, 0x0b, 0x0d, 0x80, 0xff}, func(b []byte) {
			checkWords(t, join([]byte(ahead), b), 128)
		})
	}
}

func TestExpandOfNoise(t *testing.T) {
	r := rand.New(rand.NewSource(4))
	few := []byte{0, 1, 2, 3, 4, 7, 8, 9, 0x0a, 0x0b, 0x0d, 0x13, 0x80, 0x81, 0xff}
	for range 100000 {
		b := make([]byte, 1+r.Intn(20))
		for i := range b {
			b[i] = few[r.Intn(len(few))]
		}
		b[0] = byte(r.Intn(40))
		checkWords(t, b, r.Intn(45)-2)
	}
}

// P4.2

// texts are what is compressed: rows of bytes of all kinds.
func texts() [][]byte {
	l := [][]byte{nil, {}, {0}, {0xff}, []byte("a"), []byte("abc"), []byte("abcd"), []byte("abcdabc"), []byte("abcdabcd"), []byte("abcdabcdz"), []byte("aaaa"), []byte("aaaaa"), []byte("aaaaaa")}
	l = append(l, cycle(65536, 1), cycle(65535, 1), everyFour(65536), everyByte(), bytes.Repeat(everyByte(), 256), bytes.Repeat(everyByte(), 3))
	for _, n := range []int{4, 7, 8, 63, 64, 65, 127, 128, 129, 300, 4095, 4096, 8191, 8192, 8193, 16383, 16384, 16385, 40000, 65535, 65536} {
		l = append(l, noise(n))
		half := noise(n / 2)
		l = append(l, join(half, half))
	}
	for distance := 1; distance < 70; distance++ {
		for _, n := range []int{distance + 1, distance + 3, distance + 4, distance + 5, 2 * distance, 2*distance + 1, 3*distance + 2, 64, 300, 65536} {
			if distance < 40 || n < 1000 {
				l = append(l, cycle(n, distance))
			}
		}
	}
	for _, s := range []string{"level=info app=web ", "ab", "abc\x00", "\xff\xfe\xfd\xfc\xfb"} {
		l = append(l, []byte(strings.Repeat(s, 50)), []byte(strings.Repeat(s, 50)+"!"), []byte(strings.Repeat(s, 65536/len(s))))
	}
	return append(append(l, lines()), spreads()...)
}

// everyByte answers all bytes once.
func everyByte() []byte {
	b := make([]byte, 256)
	for i := range b {
		b[i] = byte(i)
	}
	return b
}

// everyFour answers n bytes, 65536 at most, in which no four stand again: each four tell what number they were made of, and where in it they begin.
func everyFour(n int) []byte {
	var b []byte
	for i := uint32(0); len(b) < n; i++ {
		b = append(b, byte(i>>8)|0x80, byte(i)&0x7f, byte(i>>7)&1|2, byte(i>>4)|0x80)
	}
	return b[:n]
}

// lines answers lines as a server writes them.
func lines() []byte {
	r := rand.New(rand.NewSource(7))
	var b []byte
	for len(b) < 60000 {
		b = fmt.Appendf(b, "time=%d level=%s app=web-%d code=%d path=/api/v1/items/%d\n", 1700000000+len(b), []string{"info", "warn", "error"}[r.Intn(3)], r.Intn(9), 200+r.Intn(300), r.Intn(100000))
	}
	return b
}

// spreads are rows in which a few bytes are said again now and then, far back, with new ones between: there what says them again costs most.
func spreads() [][]byte {
	var l [][]byte
	r := rand.New(rand.NewSource(9))
	for _, start := range []int{60, 127, 200, 4000, 16000, 16500, 30000, 50000} {
		for _, length := range []int{4, 5, 6, 7} {
			for _, gap := range []int{1, 2, 5, 63, 64, 70, 200} {
				b := noise(start)
				for len(b) < min(65536, 2*start+10000) {
					from := r.Intn(start - length)
					b = append(b, b[from:from+length]...)
					fresh := make([]byte, gap)
					r.Read(fresh)
					b = append(b, fresh...)
				}
				l = append(l, b[:min(len(b), 65536)])
			}
		}
	}
	return l
}

// checkCompress checks that what Compress answers of b becomes b, and is short enough.
func checkCompress(t *testing.T, b []byte) {
	t.Helper()
	c, e := lz.Compress(b)
	if e != api.OK || len(c) > len(b)+8 {
		t.Errorf("Compress(%s): %s, %d", show(b), show(c), e)
	}
	if x, f := wanted(c, len(b)); f != api.OK || !bytes.Equal(x, b) {
		t.Errorf("Compress(%s): %s, and this becomes %s, %d", show(b), show(c), show(x), f)
	}
	checkExpand(t, c, len(b), b, api.OK)
}

func TestCompressWhatIsExpanded(t *testing.T) {
	for _, b := range texts() {
		checkCompress(t, b)
	}
}

func TestCompressOfAllRows(t *testing.T) {
	everyRow(11, []byte{'a', 'b'}, func(b []byte) { checkCompress(t, b) })
	everyRow(7, []byte{0, 1, 0xff}, func(b []byte) { checkCompress(t, b) })
}

func TestCompressOfFewBytes(t *testing.T) {
	r := rand.New(rand.NewSource(5))
	for range 3000 {
		b := make([]byte, r.Intn(400))
		kinds := 1 + r.Intn(5)
		for i := range b {
			b[i] = byte(r.Intn(kinds))
			if i > 20 && r.Intn(4) == 0 {
				b[i] = b[i-1-r.Intn(20)]
			}
		}
		checkCompress(t, b)
	}
}

func TestCompressOfNothing(t *testing.T) {
	for _, b := range [][]byte{nil, {}, []byte("abc")[:0]} {
		if c, e := lz.Compress(b); !bytes.Equal(c, []byte{0}) || e != api.OK {
			t.Errorf("Compress of no byte: % x, %d", c, e)
		}
	}
}

func TestCompressTooLong(t *testing.T) {
	for _, n := range []int{65537, 65538, 70000, 1 << 17, 1 << 20} {
		for _, b := range [][]byte{make([]byte, n), noise(n), cycle(n, 7)} {
			if c, e := lz.Compress(b); len(c) != 0 || e != api.ErrLong {
				t.Errorf("Compress(%s): %s, %d", show(b), show(c), e)
			}
		}
	}
	for _, n := range []int{65535, 65536} { // spare room doesn't count
		checkCompress(t, make([]byte, n, 1<<17))
		checkCompress(t, noise(1 << 17)[:n])
	}
}

func TestCompressOfBytesThatAreTheSame(t *testing.T) {
	check := func(n int, c byte) {
		b := bytes.Repeat([]byte{c}, n)
		checkCompress(t, b)
		if s, _ := lz.Compress(b); n >= 64 && len(s) > 16 {
			t.Errorf("Compress of %d bytes %02x: %s", n, c, show(s))
		}
	}
	for n := range 700 {
		for _, c := range []byte{0, 'x', 0x80, 0xff} {
			check(n, c)
		}
	}
	for c := range 256 {
		check(63, byte(c))
		check(64, byte(c))
		check(1000, byte(c))
	}
	for _, n := range []int{1023, 1024, 8191, 8192, 8193, 8194, 16383, 16384, 16385, 32767, 32768, 65534, 65535, 65536} {
		check(n, 'x')
		check(n, 0)
	}
}

// lay answers b in memory of its own, some bytes behind its beginning, with others ahead of it and in its spare room.
func lay(b []byte, ahead int, behind []byte) []byte {
	room := join(noise(ahead), b, behind)
	return room[ahead : ahead+len(b)]
}

func TestCompressOfTheSameIsTheSame(t *testing.T) {
	l := texts()
	first := make([][]byte, len(l))
	for i, b := range l {
		first[i], _ = lz.Compress(b)
	}
	for i, b := range slices.Backward(l) { // behind other calls, and wherever b lies
		for k, behind := range [][]byte{nil, b[:min(len(b), 9)], []byte("\x00\x00\x00\x00\x00\x00\x00\x00\x00"), bytes.Repeat(b[max(0, len(b)-1):], 99)} {
			if c, e := lz.Compress(lay(b, k*3, behind)); !bytes.Equal(c, first[i]) || e != api.OK {
				t.Errorf("Compress(%s): %s, %d, but %s ahead of it", show(b), show(c), e, show(first[i]))
			}
		}
	}
}

func TestCallsAtOnce(t *testing.T) {
	l := [][]byte{noise(3000), lines()[:5000], cycle(4000, 13), []byte("abcdabcd"), bytes.Repeat([]byte("x"), 64), join(noise(700), noise(700))}
	var want [][]byte
	for _, b := range l {
		c, _ := lz.Compress(b)
		want = append(want, c)
	}
	var all sync.WaitGroup
	for k := range 8 {
		all.Go(func() {
			for i := range 20 * len(l) {
				i = (i + k) % len(l)
				c, e := lz.Compress(l[i])
				x, f := lz.Expand(want[i], len(l[i]))
				if e != api.OK || f != api.OK || !bytes.Equal(c, want[i]) || !bytes.Equal(x, l[i]) {
					t.Errorf("%s: %s, %d, and back %s, %d", show(l[i]), show(c), e, show(x), f)
				}
			}
		})
	}
	all.Wait()
}

// P4.3

// fill writes c over all of b, its spare room too.
func fill(b []byte, c byte) {
	b = b[:cap(b)]
	for i := range b {
		b[i] = c
	}
}

// checkMemory checks that f leaves b and its spare room, that its answer shares no memory with b nor with another answer, and that f doesn't keep b.
func checkMemory(t *testing.T, b []byte, f func([]byte) ([]byte, api.Errno)) {
	t.Helper()
	given := lay(b, 0, []byte("spare room"))
	room := given[:cap(given)]
	keep := bytes.Clone(room)
	one, e := f(given)
	two, _ := f(given)
	want := bytes.Clone(one)
	if !bytes.Equal(room, keep) {
		t.Errorf("%s was changed to %s", show(keep), show(room))
	}
	fill(one, 0xee)
	if !bytes.Equal(room, keep) || !bytes.Equal(two, want) {
		t.Errorf("an answer of %s shares memory", show(b))
	}
	fill(given, 0x77)
	if !bytes.Equal(two, want) {
		t.Errorf("an answer changed with %s", show(b))
	}
	copy(room, keep)
	if x, g := f(given); !bytes.Equal(x, want) || g != e {
		t.Errorf("of %s: %s, %d, but %s, %d ahead of it", show(b), show(x), g, show(want), e)
	}
}

func TestCompressMemory(t *testing.T) {
	for _, b := range texts() {
		checkMemory(t, b, lz.Compress)
	}
	checkMemory(t, noise(65537), lz.Compress)
}

func TestExpandMemory(t *testing.T) {
	for _, most := range []int{65536, 20, 0, -1} {
		expand := func(b []byte) ([]byte, api.Errno) { return lz.Expand(b, most) }
		for _, b := range blocks() {
			checkMemory(t, b, expand)
			checkMemory(t, b[:len(b)/2], expand)
			checkMemory(t, join(b, []byte{0}), expand)
		}
	}
}

func TestAnswersShareNoMemory(t *testing.T) {
	l := texts()[:40]
	var packed, whole [][]byte
	for _, b := range l {
		c, _ := lz.Compress(b)
		x, _ := lz.Expand(c, len(b))
		packed, whole = append(packed, c), append(whole, x)
	}
	for i, b := range l {
		x, e := wanted(packed[i], len(b))
		if e != api.OK || !bytes.Equal(x, b) || !bytes.Equal(whole[i], b) {
			t.Errorf("an answer of %s was changed through another one", show(b))
		}
		fill(packed[i], 0xee)
		fill(whole[i], 0xee)
	}
}
