package store

import (
	"strconv"
	"strings"

	"garner/api"
	"garner/disk"
	"garner/head"
	"garner/manifest"
	"garner/record"
	"garner/segment"
	"garner/wal"
)

// Open answers the store that lies on d. A file that is none of its own, such as a crash leaves, is deleted.
func Open(d *disk.Disk) (*Store, api.Errno) {
	if d == nil {
		return nil, api.ErrNil
	}
	s := &Store{disk: d, head: head.New()}
	for _, step := range []func() api.Errno{s.loadManifest, s.openSegments, s.deleteStrangers, s.readLog} {
		if e := step(); e != api.OK {
			return nil, e
		}
	}
	return s, api.OK
}

// loadManifest reads what the store has.
func (s *Store) loadManifest() api.Errno {
	m, e := manifest.Load(s.disk)
	s.manifest, s.next = m, m.Seq
	return e
}

// openSegments reads the segments that the manifest names.
func (s *Store) openSegments() api.Errno {
	for _, seg := range s.manifest.Segs {
		b, e := s.disk.Read(segmentName(seg.Id))
		if e == api.ErrNone {
			return api.ErrStore
		}
		if e != api.OK {
			return e
		}
		x, e := segment.Open(b)
		if e != api.OK || x.Len() != seg.Count {
			return api.ErrStore
		}
		s.segments = append(s.segments, x)
	}
	return api.OK
}

// deleteStrangers deletes the files that aren't the store's: those that it had ahead of its manifest, and those that it was going to have when it crashed.
func (s *Store) deleteStrangers() api.Errno {
	names, e := s.disk.List()
	if e != api.OK {
		return e
	}
	own := map[string]struct{}{"manifest": {}}
	for _, seg := range s.manifest.Segs {
		own[segmentName(seg.Id)] = struct{}{}
	}
	for _, name := range names {
		if _, ok := own[name]; ok || logNumber(name) >= s.manifest.Wal {
			continue
		}
		if e := s.delete(name); e != api.OK {
			return e
		}
	}
	return api.OK
}

// readLog opens the log, and lays the batches that it holds into the head.
func (s *Store) readLog() api.Errno {
	log, payloads, e := wal.Open(s.disk, s.manifest.Wal)
	if e != api.OK {
		return e
	}
	s.log = log
	for _, payload := range payloads {
		l, e := record.GetAll(payload)
		if e != api.OK || !s.follow(l) {
			return api.ErrStore
		}
		s.accept(l)
	}
	return api.OK
}

// follow tells whether the records of l may be the batch behind what was accepted up to now.
func (s *Store) follow(l []api.Record) bool {
	if len(l) == 0 || !s.hasRoom(len(l)) {
		return false
	}
	for i, r := range l {
		if r.Seq != s.next+uint64(i) {
			return false
		}
	}
	return true
}

// logNumber answers the number of the log's file of that name; 0, if it is none.
func logNumber(name string) int {
	n, err := strconv.Atoi(strings.TrimPrefix(name, "wal-"))
	if err != nil || wal.Name(n) != name { // the number has other writings, which are no file's of a log
		return 0
	}
	return n
}
