package wal

import (
	"provost/api"
	"provost/frame"
)

// dropNew drops what a crash has left of a file that was being made anew.
func (w *Wal) dropNew() api.Errno {
	for _, f := range [...]single{voteFile, snapFile} {
		if errno := w.file(f.newName).drop(); errno != api.OK {
			return errno
		}
	}
	return api.OK
}

// readVote reads the term and the vote.
func (w *Wal) readVote() api.Errno {
	f := w.file(voteFile.name)
	payloads, whole := frame.Scan(f.read())
	for _, payload := range payloads {
		if term, vote, valid := voteOf(payload); valid {
			w.state.Term, w.state.Vote = term, vote
		}
	}
	return f.trim(whole)
}

// readSnap reads the snapshot.
func (w *Wal) readSnap() api.Errno {
	f := w.file(snapFile.name)
	s, valid := snapOf(f.read())
	if !valid {
		return f.drop()
	}
	w.state.Snap = s
	return api.OK
}

// readLog reads the segments up to the first record that is torn or doesn't fit. What is behind it goes: records that
// are written later must be found by the next one who reads.
func (w *Wal) readLog() api.Errno {
	l := w.segments()
	for k, s := range l {
		f := w.file(s.name)
		b := f.read()
		good := w.replay(b)
		if good == len(b) {
			continue
		}
		if errno := f.trim(good); errno != api.OK {
			return errno
		}
		return w.dropSegments(l[k+1:])
	}
	return api.OK
}

// replay lets the records that b begins with take effect, as long as they are whole and fit, and returns how many
// bytes they have.
func (w *Wal) replay(b []byte) int {
	payloads, _ := frame.Scan(b)
	good := 0
	for _, payload := range payloads {
		c, valid := changeOf(payload)
		if !valid || !c.fits(&w.state) {
			break
		}
		c.apply(&w.state)
		good += headBytes + len(payload)
	}
	return good
}

// dropSegments drops segments, one after the other.
func (w *Wal) dropSegments(l []segment) api.Errno {
	for _, s := range l {
		if errno := w.file(s.name).drop(); errno != api.OK {
			return errno
		}
	}
	return api.OK
}
