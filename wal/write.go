package wal

import (
	"provost/api"
	"provost/frame"
)

const (
	segmentRecords = 8   // with so many records a segment takes no more
	voteBytes      = 400 // with more bytes the file of the votes is made anew
)

// segments returns the segments that are there, the lowest first: names of equal length are in the order of their
// numbers.
func (w *Wal) segments() []segment {
	var l []segment
	for _, name := range w.disk.Files() {
		if s, found := segmentOf(name); found {
			l = append(l, s)
		}
	}
	return l
}

// write writes the record of a change behind all others.
func (w *Wal) write(c change) api.Errno {
	s, errno := w.target()
	if errno != api.OK {
		return errno
	}
	return w.file(s.name).append(c.record())
}

// target returns the segment that takes the next record. If that is a new one, the one before it has been made sure:
// a crash must not take records from it and leave those that follow upon them.
func (w *Wal) target() (segment, api.Errno) {
	l := w.segments()
	if len(l) == 0 {
		return 1, api.OK
	}
	s := l[len(l)-1]
	f := w.file(s.name)
	if payloads, _ := frame.Scan(f.read()); len(payloads) < segmentRecords {
		return s, api.OK
	}
	if s == lastSegment {
		return 0, api.ErrMany
	}
	return s + 1, f.settle()
}

// writeVote makes the record of a vote the last one, and sure.
func (w *Wal) writeVote(record []byte) api.Errno {
	f := w.file(voteFile.name)
	if len(f.read()) > voteBytes {
		return w.replace(voteFile, record)
	}
	if errno := f.append(record); errno != api.OK {
		return errno
	}
	return f.sync()
}

// replace makes b the content of a file. The old content stays until the new one is sure.
func (w *Wal) replace(s single, b []byte) api.Errno {
	f := w.file(s.newName)
	if errno := f.append(b); errno != api.OK {
		return errno
	}
	if errno := f.sync(); errno != api.OK {
		return errno
	}
	return f.move(w.file(s.name))
}

// clearLog removes all entries.
func (w *Wal) clearLog() api.Errno {
	c := change{index: w.state.Snap.Index + 1, truncation: true}
	if errno := w.write(c); errno != api.OK {
		return errno
	}
	if errno := w.Sync(); errno != api.OK {
		return errno
	}
	c.apply(&w.state)
	return api.OK
}

// dropOld drops the segments that say nothing beyond the snapshot. The last one stays, because it takes the next
// record.
func (w *Wal) dropOld() api.Errno {
	l := w.segments()
	old := 0
	for old < len(l)-1 && w.isOld(l[old]) {
		old++
	}
	return w.dropSegments(l[:old])
}

// isOld tells whether all records of a segment have indexes up to the snapshot's.
func (w *Wal) isOld(s segment) bool {
	payloads, _ := frame.Scan(w.file(s.name).read())
	for _, payload := range payloads {
		if c, valid := changeOf(payload); !valid || c.index > w.state.Snap.Index {
			return false
		}
	}
	return true
}
