package session

import (
	"provost/api"
	"provost/cmd"
	"provost/item"
	"provost/wire"
)

// Save returns the encoding of the clock, the next number and the sessions. No reply is kept that can't be packed, and
// even MaxSessions sessions are far from an item's limits, so that nothing here can fail.
func (t *Table) Save() string {
	if t == nil {
		return Empty().Save()
	}
	var sessions []api.Item
	for _, s := range t.sessions {
		packed, _ := cmd.Pack(s.reply)
		sessions = append(sessions, item.List(item.Number(s.id), item.Number(s.seq), item.Number(s.used), item.Text(packed)))
	}
	text, _ := item.Encode(item.Number(t.clock), item.Number(t.latest+1), item.List(sessions...))
	return text
}

// Load returns the table for which Save returns text, or ErrForm if there is none. There is only one text for a table:
// what is wrong with the form alone makes the bytes differ.
func Load(text string) (*Table, api.Errno) {
	i, errno := wire.Decode([]byte(text))
	if errno != api.OK {
		return nil, api.ErrForm
	}
	t := Empty()
	if !t.restore(i) || t.Save() != text {
		return nil, api.ErrForm
	}
	return t, api.OK
}

// restore makes t, which is empty, what i tells, and tells whether there may be such a table.
func (t *Table) restore(i api.Item) bool {
	// The least next number of all wraps round to a latest one that is none either.
	t.clock, t.latest = item.Part(i, 0).N, item.Part(i, 1).N-1
	sessions := item.Part(i, 2).L
	if !isIndex(t.clock) || !isIndex(t.latest) || len(sessions) > api.MaxSessions {
		return false
	}
	last := int64(0) // below every session's number
	for _, part := range sessions {
		s, packed := sessionOf(part)
		if !packed || s.id <= last || !t.mayHave(s) {
			return false
		}
		last = s.id
		t.sessions = append(t.sessions, s)
	}
	return true
}

// sessionOf returns the session that i tells, and whether its reply is one that was packed.
func sessionOf(i api.Item) (session, bool) {
	r, errno := cmd.Unpack(item.Part(i, 3).S)
	return session{id: item.Part(i, 0).N, seq: item.Part(i, 1).N, used: item.Part(i, 2).N, reply: r}, errno == api.OK
}

// mayHave tells whether there may be such a session, at the table's clock and behind the numbers that it has given.
func (t *Table) mayHave(s session) bool {
	return s.id <= t.latest &&
		isIndex(s.used) && s.used <= t.clock &&
		isIndex(s.seq) && (s.seq > 0 || s.reply == api.Reply{})
}

// isIndex tells whether n is from 0 to MaxIndex, as clocks and sequence numbers are.
func isIndex(n int64) bool { return n >= 0 && n <= api.MaxIndex }
