package store

import (
	"slices"
	"strconv"

	"garner/api"
	"garner/segment"
)

// kept is a manifest and the segments that it names, in its order. It is never changed in place but replaced whole, as the manifest's file is, so that an error on the way leaves the store as it was.
type kept struct {
	manifest api.Manifest
	segments []*segment.Segment
}

// with answers k with the segment x, which has records, at its end. Its number is the manifest's Next.
func (k kept) with(x *segment.Segment) kept {
	first, _ := x.Record(0)
	last, _ := x.Record(x.Len() - 1)
	seg := api.Seg{Id: k.manifest.Next, Count: x.Len(), Min: first.Time, Max: last.Time}
	k.manifest.Segs = slices.Concat(k.manifest.Segs, []api.Seg{seg})
	k.manifest.Next++
	k.segments = slices.Concat(k.segments, []*segment.Segment{x})
	return k
}

// without answers k without the segments at the places, which rise.
func (k kept) without(places []int) kept {
	left := k
	left.manifest.Segs, left.segments = nil, nil
	for i, seg := range k.manifest.Segs {
		if _, out := slices.BinarySearch(places, i); !out {
			left.manifest.Segs = append(left.manifest.Segs, seg)
			left.segments = append(left.segments, k.segments[i])
		}
	}
	return left
}

// files answers the names of the files of the segments at the places.
func (k kept) files(places []int) []string {
	var names []string
	for _, i := range places {
		names = append(names, segmentName(k.manifest.Segs[i].Id))
	}
	return names
}

// segmentName answers the name of the file of the segment with the number n.
func segmentName(n int) string {
	return "seg-" + strconv.Itoa(n)
}
