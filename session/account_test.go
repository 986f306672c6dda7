package session_test

import (
	"slices"

	"provost/api"
	"provost/cmd"
	"provost/item"
	"provost/wire"
)

// The limits, by number: the tests reach and pass them.
const (
	mostSessions = 32
	end          = int64(1) << 62
)

// table is what the tests ask of a Table, and of its second account.
type table interface {
	Tick()
	Register() (int64, api.Errno)
	Check(id, seq int64) (int, api.Reply)
	Done(id, seq int64, r api.Reply) api.Errno
	Expire(idle int64) int64
	Sessions() []int64
	Save() string
}

// row is a session of the second account. One that has ended stays, as gone.
type row struct {
	id, seq, used int64
	reply         api.Reply
	gone          bool
}

// account is a second account of a Table, by the chapter's words. Nothing is searched for in it but by going through
// all rows, which it keeps in the order in which they came.
type account struct {
	clock, next int64
	rows        []row
}

func newAccount() *account { return &account{next: 1} }

func (a *account) Tick() {
	if a.clock != end {
		a.clock++
	}
}

func (a *account) Register() (int64, api.Errno) {
	if len(a.Sessions()) == mostSessions || a.next > end {
		return 0, api.ErrMany
	}
	a.rows = append(a.rows, row{id: a.next, used: a.clock})
	a.next++
	return a.next - 1, api.OK
}

// row returns the session id that isn't gone, or nil.
func (a *account) row(id int64) *row {
	for k := range a.rows {
		if a.rows[k].id == id && !a.rows[k].gone {
			return &a.rows[k]
		}
	}
	return nil
}

func (a *account) Check(id, seq int64) (int, api.Reply) {
	r := a.row(id)
	if r == nil {
		return 3, api.Reply{E: 20}
	}
	if seq == r.seq && seq > 0 {
		return 2, r.reply
	}
	if seq-1 == r.seq && seq <= end {
		return 1, api.Reply{}
	}
	return 4, api.Reply{E: 21}
}

func (a *account) Done(id, seq int64, r api.Reply) api.Errno {
	verdict, due := a.Check(id, seq)
	if verdict > 2 {
		return due.E
	}
	if r.E < 0 || r.E > 255 || len(r.S) > 1000 {
		return api.ErrForm
	}
	s := a.row(id)
	s.used = a.clock
	if verdict == 1 {
		s.seq, s.reply = seq, r
	}
	return api.OK
}

func (a *account) Expire(idle int64) int64 {
	ended := int64(0)
	for k := range a.rows {
		ago := a.clock - a.rows[k].used
		if !a.rows[k].gone && (idle <= 0 || ago >= idle) {
			a.rows[k].gone = true
			ended++
		}
	}
	return ended
}

func (a *account) Sessions() []int64 {
	var l []int64
	for _, r := range a.rows {
		if !r.gone {
			l = append(l, r.id)
		}
	}
	return l
}

func (a *account) Save() string { return encoded(a.item()) }

// item is the item that is saved.
func (a *account) item() api.Item {
	l := item.List()
	for _, r := range a.rows {
		if !r.gone {
			l.L = append(l.L, rowItem(r.id, r.seq, r.used, r.reply))
		}
	}
	return item.List(item.Number(a.clock), item.Number(a.next), l)
}

func rowItem(id, seq, used int64, r api.Reply) api.Item {
	return item.List(item.Number(id), item.Number(seq), item.Number(used), item.Text(packed(r)))
}

// packed is the encoding of a reply that has one.
func packed(r api.Reply) string {
	s, e := cmd.Pack(r)
	if e != api.OK {
		panic("no reply")
	}
	return s
}

// encoded is the encoding of an item that has one.
func encoded(i api.Item) string {
	b, e := wire.Encode(i)
	if e != api.OK {
		panic("no item")
	}
	return string(b)
}

// loadable is the account that a text has been saved of, if there is one, by the chapter's list of what has to hold.
func loadable(text string) (*account, bool) {
	i, e := wire.Decode([]byte(text))
	if e != api.OK || !isRow(i, api.Number, api.Number, api.List) {
		return nil, false
	}
	a := &account{clock: i.L[0].N, next: i.L[1].N}
	if a.clock < 0 || a.clock > end || a.next < 1 || a.next > end+1 || len(i.L[2].L) > mostSessions {
		return nil, false
	}
	for _, x := range i.L[2].L {
		if !isRow(x, api.Number, api.Number, api.Number, api.Text) {
			return nil, false
		}
		r := row{id: x.L[0].N, seq: x.L[1].N, used: x.L[2].N}
		if r.reply, e = cmd.Unpack(x.L[3].S); e != api.OK || r.seq == 0 && r.reply != (api.Reply{}) {
			return nil, false
		}
		if r.id < 1 || r.id >= a.next || r.seq < 0 || r.seq > end || r.used < 0 || r.used > a.clock {
			return nil, false
		}
		if n := len(a.rows); n > 0 && a.rows[n-1].id >= r.id {
			return nil, false
		}
		a.rows = append(a.rows, r)
	}
	return a, true
}

// isRow tells whether i is a list of parts of these kinds.
func isRow(i api.Item, kinds ...int) bool {
	var l []int
	for _, x := range i.L {
		l = append(l, x.Kind)
	}
	return i.Kind == api.List && slices.Equal(l, kinds)
}
