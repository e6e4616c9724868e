package segment

import (
	"bytes"
	"maps"
	"slices"

	"garner/api"
	"garner/frame"
	"garner/lz"
	"garner/post"
	"garner/record"
)

// A segment's bytes are frames (layer 2) in a seal. The frames: of each block its records, as a compressed batch; one that is empty; of each block its filter; of each term, in the order of their bytes, it and its places, as postings. The seal: ahead of the frames how many bytes they have, in eight bytes; at the end the checksum of all that, in four; each with the lowest byte first.
const (
	sizeLen = 8 // bytes of the number ahead of the frames
	sumLen  = 4 // bytes of the checksum
)

// layOut answers the bytes of s. None of the layers below finds a fault: a block's records have less than MaxBlock bytes, as has what else is laid into a frame.
func (s *Segment) layOut() []byte {
	var frames []byte
	for k := range s.Blocks() {
		batch, _ := record.PutAll(s.block(k)...)
		block, _ := lz.Compress(batch)
		frames = addFrame(frames, block)
	}
	frames = addFrame(frames, nil)
	for _, filter := range s.filters {
		frames = addFrame(frames, filter)
	}
	for _, term := range slices.Sorted(maps.Keys(s.places)) {
		postings, _ := post.Write(s.places[term])
		frames = addFrame(addFrame(frames, []byte(term)), postings)
	}
	return seal(frames)
}

// readRecords answers the records that stand in b, be they a segment's or not, if b is sealed and has the frames of blocks up to an empty one.
func readRecords(b []byte) ([]api.Record, bool) {
	frames, ok := unseal(b)
	if !ok {
		return nil, false
	}
	var l []api.Record
	for at := 0; len(l) <= api.MaxFrame; { // bytes that no Write answered may hold more than any segment has
		block, to, e := frame.Read(frames, at)
		if e != api.OK {
			return nil, false
		}
		if len(block) == 0 {
			return l, true
		}
		batch, e := lz.Expand(block, api.MaxBlock)
		if e != api.OK {
			return nil, false
		}
		part, e := record.GetAll(batch)
		if e != api.OK {
			return nil, false
		}
		l = append(l, part...)
		at = to
	}
	return nil, false
}

// seal answers the frames in a seal. By it a segment's bytes with one bit turned are no segment's, since a checksum tells each such bit, and those of another length aren't either: frames alone would leave that to chance.
func seal(frames []byte) []byte {
	size := sizeOf(frames)
	return slices.Concat(size, frames, sumOf(size, frames))
}

// unseal answers the frames that b is the seal of.
func unseal(b []byte) ([]byte, bool) {
	if len(b) < sizeLen+sumLen {
		return nil, false
	}
	size, frames, sum := b[:sizeLen], b[sizeLen:len(b)-sumLen], b[len(b)-sumLen:]
	if !bytes.Equal(size, sizeOf(frames)) || !bytes.Equal(sum, sumOf(size, frames)) {
		return nil, false
	}
	return frames, true
}

// sizeOf answers the seal's bytes ahead of the frames.
func sizeOf(frames []byte) []byte {
	return lowestFirst(uint64(len(frames)), sizeLen)
}

// sumOf answers the seal's bytes behind the size and the frames.
func sumOf(size, frames []byte) []byte {
	return lowestFirst(uint64(frame.Sum(size, frames)), sumLen)
}

// addFrame lays a frame of the payload behind b.
func addFrame(b, payload []byte) []byte {
	f, _ := frame.Frame(payload)
	return append(b, f...)
}

// lowestFirst answers the lowest bytes of n, so many, the lowest first.
func lowestFirst(n uint64, count int) []byte {
	b := make([]byte, count)
	for i := range b {
		b[i] = byte(n >> (8 * i))
	}
	return b
}
