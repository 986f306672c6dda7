package state

import (
	"provost/api"
	"provost/item"
	"provost/sched"
	"provost/session"
	"provost/wire"
)

// Save returns the encoding of what both parts save. Even at the limits both together are far from those of an item.
func (s *State) Save() string {
	p := s.parts()
	text, _ := item.Encode(itemOf(p.scheduler.Save()), itemOf(p.sessions.Save()))
	return text
}

// Load returns the State for which Save returns text, or ErrForm if there is none. A part that is loaded would be saved
// as it was, and an item has only one encoding: nothing is left to hold against text.
func Load(text string) (*State, api.Errno) {
	i := itemOf(text)
	if len(i.L) != 2 {
		return nil, api.ErrForm
	}
	s, errno := sched.Load(textOf(i.L[0]))
	if errno != api.OK {
		return nil, api.ErrForm
	}
	t, errno := session.Load(textOf(i.L[1]))
	if errno != api.OK {
		return nil, api.ErrForm
	}
	return of(s, t), api.OK
}

// itemOf returns the item whose encoding is text, or one of no kind if there is none.
func itemOf(text string) api.Item {
	i, _ := wire.Decode([]byte(text))
	return i
}

// textOf returns the encoding of i, which was decoded and so has one.
func textOf(i api.Item) string {
	b, _ := wire.Encode(i)
	return string(b)
}
