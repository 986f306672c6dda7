package wal

import (
	"slices"

	"provost/api"
)

// nobody is the vote that is for no replica.
const nobody = -1

// mayVote tells whether a vote is a replica's number or nobody.
func mayVote(vote int64) bool { return vote >= nobody && vote < api.MaxReplicas }

// mayBe tells whether n may be an index, or an entry's or a snapshot's term.
func mayBe(n int64) bool { return n >= 1 && n <= api.MaxIndex }

// maySnap tells whether a snapshot may have that index and term.
func maySnap(s api.Snap) bool { return mayBe(s.Index) && mayBe(s.Term) }

// copied returns s with a log of its own.
func (s *State) copied() State {
	c := *s
	c.Log = slices.Clone(s.Log)
	return c
}

// last returns the index of the last entry, or of the snapshot if there is none behind it.
func (s *State) last() int64 { return s.Snap.Index + int64(len(s.Log)) }

// has tells whether the log has an entry of that term at an index above the snapshot's.
func (s *State) has(index, term int64) bool {
	return index <= s.last() && s.Log[index-s.Snap.Index-1].Term == term
}

// above returns the entries behind an index above the snapshot's. They are copied, so that those ahead of them take
// no memory any more.
func (s *State) above(index int64) []api.Entry {
	return slices.Clone(s.Log[min(index, s.last())-s.Snap.Index:])
}

// check returns the error for which l can't be appended from an index on.
func (s *State) check(from int64, l []api.Entry) api.Errno {
	if from <= s.Snap.Index || from > s.last()+1 || int64(len(l)) > api.MaxIndex-from+1 {
		return api.ErrArg
	}
	tooLong := false
	for _, e := range l {
		if !mayBe(e.Term) {
			return api.ErrArg
		}
		tooLong = tooLong || len(e.Data) > api.MaxData
	}
	if tooLong {
		return api.ErrMany
	}
	return api.OK
}

// change is what a record of a segment says: the entries from index on are removed, and one is put there unless it
// is a truncation.
type change struct {
	index      int64
	truncation bool
	entry      api.Entry
}

// fits tells whether c may follow upon s.
func (c change) fits(s *State) bool {
	if !mayBe(c.index) || c.index > s.last()+1 {
		return false
	}
	return c.truncation || mayBe(c.entry.Term) && len(c.entry.Data) <= api.MaxData
}

// apply changes the log of s as c says, which fits.
func (c change) apply(s *State) {
	s.Log = s.Log[:max(0, c.index-s.Snap.Index-1)]
	if !c.truncation && c.index > s.Snap.Index {
		s.Log = append(s.Log, c.entry)
	}
}
