package state_test

import (
	"slices"

	"provost/api"
	"provost/cmd"
	"provost/item"
	"provost/sched"
	"provost/session"
	"provost/wire"
)

// The limits, by number: the tests reach and pass them.
const (
	mostSessions = 32
	end          = int64(1) << 62
)

// row is a session of the second account. One that has ended stays, as gone.
type row struct {
	id, seq, used int64
	reply         api.Reply
	gone          bool
}

// account is a second account of a State, by the chapter's words. The commands are done by package sched, which has
// tests of its own; sessions are rows in the order in which they came.
type account struct {
	cluster     *sched.Sched
	clock, next int64
	rows        []row
}

func newAccount() *account { return &account{cluster: sched.New(), next: 1} }

// apply applies data.
func (a *account) apply(data string) api.Reply {
	a.clock = min(a.clock+1, end)
	o, may := orderIn(data)
	if !may {
		return api.Reply{E: 4}
	}
	switch o.Kind {
	case 1:
		if len(a.sessions()) == mostSessions || a.next > end {
			return api.Reply{E: 3}
		}
		a.rows = append(a.rows, row{id: a.next, used: a.clock})
		a.next++
		return api.Reply{N: a.next - 1}
	case 2:
		return a.once(o)
	case 3:
		return api.Reply{N: a.expire(o.N)}
	case 5:
		return a.cluster.Do(o.C)
	}
	return api.Reply{}
}

func (a *account) once(o api.Order) api.Reply {
	verdict, r := a.check(o.ID, o.Seq)
	if verdict > 2 {
		return r
	}
	s := &a.rows[a.at(o.ID)]
	s.used = a.clock
	if verdict == 1 {
		r = a.cluster.Do(o.C)
		s.seq, s.reply = o.Seq, r
	}
	return r
}

func (a *account) expire(idle int64) int64 {
	ended := int64(0)
	for k, r := range a.rows {
		if !r.gone && a.clock-r.used >= idle {
			a.rows[k].gone = true
			ended++
		}
	}
	return ended
}

// at is where the session id is that isn't gone, or -1.
func (a *account) at(id int64) int {
	return slices.IndexFunc(a.rows, func(r row) bool { return r.id == id && !r.gone })
}

func (a *account) check(id, seq int64) (int, api.Reply) {
	k := a.at(id)
	switch {
	case k < 0:
		return 3, api.Reply{E: 20}
	case seq > 0 && seq == a.rows[k].seq:
		return 2, a.rows[k].reply
	case seq-1 == a.rows[k].seq && seq <= end:
		return 1, api.Reply{}
	}
	return 4, api.Reply{E: 21}
}

// sessions are the numbers of the sessions that aren't gone.
func (a *account) sessions() []int64 {
	var l []int64
	for _, r := range a.rows {
		if !r.gone {
			l = append(l, r.id)
		}
	}
	return l
}

// save is the text that is saved: a list of two, written by hand.
func (a *account) save() string {
	return "\x03\x01\x02" + a.cluster.Save() + encoded(a.table())
}

// table is the item that the sessions are saved as.
func (a *account) table() api.Item {
	l := item.List()
	for _, r := range a.rows {
		if !r.gone {
			l.L = append(l.L, item.List(item.Number(r.id), item.Number(r.seq), item.Number(r.used), item.Text(packed(r.reply))))
		}
	}
	return item.List(item.Number(a.clock), item.Number(a.next), l)
}

// packed is the encoding of a reply that has one.
func packed(r api.Reply) string {
	s, e := cmd.Pack(r)
	if e != api.OK {
		panic("no reply")
	}
	return s
}

// encoded is the encoding of an item that has one.
func encoded(i api.Item) string {
	b, e := wire.Encode(i)
	if e != api.OK {
		panic("no item")
	}
	return string(b)
}

// span is the numbers from one to another.
type span struct{ least, most int64 }

func (s span) has(n int64) bool { return n >= s.least && n <= s.most }

// rule is what the chapter's list says of the orders of a kind: what ID and Seq may be, what N, and which command.
type rule struct {
	id, n   span
	command func(c api.Cmd) bool
}

// rules are the rules by kind.
func rules() []rule {
	none := func(c api.Cmd) bool { return c == api.Cmd{} }
	report := func(c api.Cmd) bool { return c.Op == 7 && cmd.May(c) }
	return []rule{{command: none}, {n: span{0, end}, command: none}, {id: span{1, end}, command: cmd.May}, {n: span{0, end}, command: none}, {n: span{1, 127}, command: none}, {command: report}}
}

// valid tells whether o is a valid order.
func valid(o api.Order) bool {
	l := rules()
	if o.Kind < 0 || o.Kind >= len(l) {
		return false
	}
	r := l[o.Kind]
	return r.id.has(o.ID) && r.id.has(o.Seq) && r.n.has(o.N) && r.command(o.C)
}

// orderIn reads data by the chapter's words, part by part, and tells whether it is an order's.
func orderIn(data string) (api.Order, bool) {
	if data == "" {
		return api.Order{}, true
	}
	i, e := wire.Decode([]byte(data))
	if e != api.OK || !isRow(i, api.Number, api.Number, api.Number, api.Number, api.Text) || i.L[0].N < 1 || i.L[0].N > 5 {
		return api.Order{}, false
	}
	o := api.Order{Kind: int(i.L[0].N), ID: i.L[1].N, Seq: i.L[2].N, N: i.L[3].N}
	if text := i.L[4].S; o.Kind == 2 || o.Kind == 5 {
		o.C, e = cmd.Decode(text)
	} else if text != "" {
		e = api.ErrForm
	}
	if e != api.OK || !valid(o) {
		return api.Order{}, false
	}
	return o, true
}

// isRow tells whether i is a list of parts of these kinds.
func isRow(i api.Item, kinds ...int) bool {
	var l []int
	for _, x := range i.L {
		l = append(l, x.Kind)
	}
	return i.Kind == api.List && slices.Equal(l, kinds)
}

// written is the data that o would have if it were valid and not OrderNone.
func written(o api.Order) string {
	return encoded(row5(int64(o.Kind), o.ID, o.Seq, o.N, commandText(o.C)))
}

// row5 is the item of an order's parts.
func row5(kind, id, seq, n int64, text string) api.Item {
	return item.List(item.Number(kind), item.Number(id), item.Number(seq), item.Number(n), item.Text(text))
}

// commandText is the text that stands for a command, also for one that isn't valid.
func commandText(c api.Cmd) string {
	if c == (api.Cmd{}) {
		return ""
	}
	return encoded(item.List(item.Number(int64(c.Op)), item.Text(c.Name), item.Text(c.Of), item.Vec(c.V), item.Number(c.N)))
}

// loadable is the account that a text has been saved of, if there is one.
func loadable(text string) (*account, bool) {
	i, e := wire.Decode([]byte(text))
	if e != api.OK || !isRow(i, api.List, api.List) {
		return nil, false
	}
	cluster, e := sched.Load(encoded(i.L[0]))
	if _, f := session.Load(encoded(i.L[1])); e != api.OK || f != api.OK {
		return nil, false
	}
	table := i.L[1].L
	a := &account{cluster: cluster, clock: table[0].N, next: table[1].N}
	for _, x := range table[2].L {
		r, _ := cmd.Unpack(x.L[3].S)
		a.rows = append(a.rows, row{id: x.L[0].N, seq: x.L[1].N, used: x.L[2].N, reply: r})
	}
	return a, true
}
