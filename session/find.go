package session

import (
	"sort"

	"provost/api"
)

// session is one session.
type session struct {
	id    int64
	seq   int64     // the number that was executed last, or 0
	reply api.Reply // to that number
	used  int64     // when it was used last
}

// find returns the session of a number, or nil if there is none. It is the table's own, for a caller to change.
func (t *Table) find(id int64) *session {
	if t == nil {
		return nil
	}
	k := sort.Search(len(t.sessions), func(k int) bool { return t.sessions[k].id >= id })
	if k == len(t.sessions) || t.sessions[k].id != id {
		return nil
	}
	return &t.sessions[k]
}

// verdict returns the verdict on a sequence number of a session that is there.
func (s *session) verdict(seq int64) int {
	switch {
	case seq > api.MaxIndex:
		return Past
	case seq > 0 && seq == s.seq:
		return Again
	case seq == s.seq+1:
		return New
	}
	return Past
}
