package state_test

import (
	"fmt"
	"math"
	"slices"
	"testing"

	"provost/api"
	"provost/item"
	"provost/state"
	"provost/wire"
)

// The commands and orders of which the tests are made.

func node(name string, v ...int64) api.Cmd { return api.Cmd{Op: api.CmdNode, Name: name, V: vec(v)} }

func tenant(name string, v ...int64) api.Cmd {
	return api.Cmd{Op: api.CmdTenant, Name: name, V: vec(v)}
}

func submit(name, of string, v ...int64) api.Cmd {
	return api.Cmd{Op: api.CmdSubmit, Name: name, Of: of, V: vec(v)}
}

func kill(name string) api.Cmd { return api.Cmd{Op: api.CmdKill, Name: name} }

func tell(name, of string, n int64) api.Cmd {
	return api.Cmd{Op: api.CmdReport, Name: name, Of: of, N: n}
}

func query(op int, name string) api.Cmd { return api.Cmd{Op: op, Name: name} }

func vec(l []int64) api.Vec {
	var v api.Vec
	copy(v[:], l)
	return v
}

func register() api.Order { return api.Order{Kind: api.OrderRegister} }

func do(id, seq int64, c api.Cmd) api.Order {
	return api.Order{Kind: api.OrderDo, ID: id, Seq: seq, C: c}
}

func expire(idle int64) api.Order { return api.Order{Kind: api.OrderExpire, N: idle} }

func conf(n int64) api.Order { return api.Order{Kind: api.OrderConf, N: n} }

func report(name, of string, n int64) api.Order {
	return api.Order{Kind: api.OrderReport, C: tell(name, of, n)}
}

// data is the data of an order that has one.
func data(t *testing.T, o api.Order) string {
	t.Helper()
	s, e := state.Encode(o)
	if e != api.OK {
		t.Fatalf("%+v: %d", o, e)
	}
	return s
}

// step is an order, with the reply to it.
type step struct {
	o api.Order
	r api.Reply
}

// play is a State with its second account, which are given the same orders.
type play struct {
	t    *testing.T
	what string
	s    *state.State
	a    *account
}

func newPlay(t *testing.T, what string) *play {
	return &play{t, what, state.New(), newAccount()}
}

// loadPlay begins at what a text tells.
func loadPlay(t *testing.T, what, text string) *play {
	t.Helper()
	a, may := loadable(text)
	s, e := state.Load(text)
	if !may || e != api.OK {
		t.Fatalf("%s: %x: %d, %t", what, text, e, may)
	}
	return &play{t, what, s, a}
}

// apply applies data to both, and to what is loaded of what was saved ahead of it, and checks that all come to the same.
func (p *play) apply(data string) api.Reply {
	p.t.Helper()
	loaded, e := state.Load(p.s.Save())
	if e != api.OK {
		p.t.Fatalf("%s: at %.100x: loaded: %d", p.what, data, e)
	}
	want := p.a.apply(data)
	for _, s := range []*state.State{p.s, loaded} {
		if got := s.Apply(data); got != want {
			p.t.Fatalf("%s: at %.100x: %+v, not %+v", p.what, data, got, want)
		}
		same(p.t, fmt.Sprintf("%s: behind %.100x", p.what, data), s, p.a)
	}
	return want
}

// run applies orders, and checks the reply to each.
func (p *play) run(steps ...step) {
	p.t.Helper()
	for k, x := range steps {
		if got := p.apply(data(p.t, x.o)); got != x.r {
			p.t.Errorf("%s: %d: %+v: %+v, not %+v", p.what, k, x.o, got, x.r)
		}
	}
}

// same checks all that is told of a State, and that it isn't changed by that.
func same(t *testing.T, what string, s *state.State, a *account) {
	t.Helper()
	if got, want := s.Nodes(), a.cluster.Nodes(); !slices.Equal(got, want) {
		t.Fatalf("%s: nodes %v, not %v", what, got, want)
	}
	if got, want := s.Jobs(), a.cluster.Jobs(); !slices.Equal(got, want) {
		t.Fatalf("%s: jobs %v, not %v", what, got, want)
	}
	for _, c := range asked(a) {
		if got, want := s.Ask(c), a.cluster.Ask(c); got != want {
			t.Fatalf("%s: asked %+v: %+v, not %+v", what, c, got, want)
		}
	}
	for _, id := range append(a.sessions(), 0, -1, a.next, a.next+1, math.MaxInt64) {
		checkSession(t, what, s, a, id)
	}
	if got, want := s.Save(), a.save(); got != want {
		t.Fatalf("%s: saved %.400x, not %.400x", what, got, want)
	}
}

// asked are queries for what is there and for what isn't, and commands that are no queries or aren't valid.
func asked(a *account) []api.Cmd {
	l := []api.Cmd{{}, query(api.CmdJob, "none"), query(api.CmdUsed, "none"), query(api.CmdSpent, "none"), node("none", 1), kill("none"), query(api.CmdJob, "a b"), {Op: 11, Name: "a"}}
	for _, n := range a.cluster.Nodes() {
		l = append(l, query(api.CmdUsed, n.Name), node(n.Name), query(api.CmdDrop, n.Name))
	}
	for _, n := range a.cluster.Tenants() {
		l = append(l, query(api.CmdSpent, n.Name))
	}
	for _, j := range a.cluster.Jobs() {
		l = append(l, query(api.CmdJob, j.Name), kill(j.Name))
	}
	return l
}

// checkSession checks the verdicts on a session's numbers.
func checkSession(t *testing.T, what string, s *state.State, a *account, id int64) {
	t.Helper()
	last := int64(0)
	if k := a.at(id); k >= 0 {
		last = a.rows[k].seq
	}
	for _, seq := range []int64{0, -1, 1, last - 1, last, last + 1, last + 2, math.MaxInt64, math.MinInt64} {
		verdict, r := s.Check(id, seq)
		if wantVerdict, want := a.check(id, seq); verdict != wantVerdict || r != want {
			t.Fatalf("%s: %d, %d: %d, %+v, not %d, %+v", what, id, seq, verdict, r, wantVerdict, want)
		}
	}
}

// copied is an item that shares nothing with i.
func copied(i api.Item) api.Item {
	i.L = slices.Clone(i.L)
	for k := range i.L {
		i.L[k] = copied(i.L[k])
	}
	return i
}

// at is the part of an item that is reached by positions.
func at(i *api.Item, path ...int) *api.Item {
	for _, k := range path {
		i = &i.L[k]
	}
	return i
}

// itemIn is the item whose encoding a text is.
func itemIn(text string) api.Item {
	i, e := wire.Decode([]byte(text))
	if e != api.OK {
		panic("no item")
	}
	return i
}

// others are the encodings of an item with each of its parts, and itself, replaced by another one, left out, doubled or
// followed by another one.
func others(base api.Item, more ...api.Item) []string {
	var texts []string
	var walk func(path []int)
	walk = func(path []int) {
		part := *at(&base, path...)
		put := func(x api.Item) {
			i := copied(base)
			*at(&i, path...) = copied(x)
			texts = append(texts, encoded(i))
		}
		for _, x := range append([]api.Item{item.Number(0), item.Number(1), item.Text(""), item.Text("a"), item.List(), item.List(item.Number(0)), item.List(part), item.List(part, part)}, more...) {
			put(x)
		}
		if part.Kind != api.List {
			return
		}
		for k := range len(part.L) + 1 {
			for _, x := range []api.Item{item.Number(0), item.Text(""), item.List()} {
				put(api.Item{Kind: api.List, L: slices.Insert(slices.Clone(part.L), k, x)})
			}
		}
		for k := range part.L {
			put(api.Item{Kind: api.List, L: slices.Delete(slices.Clone(part.L), k, k+1)})
			put(api.Item{Kind: api.List, L: slices.Insert(slices.Clone(part.L), k, part.L[k])})
			walk(append(slices.Clone(path), k))
		}
	}
	walk(nil)
	return texts
}

// turned are the texts that differ from one by a byte turned, one more or one less, and those that are cut short.
func turned(text string) []string {
	var texts []string
	for k := range len(text) + 1 {
		for x := range 256 {
			b := string([]byte{byte(x)})
			texts = append(texts, text[:k]+b+text[k:])
			if k < len(text) {
				texts = append(texts, text[:k]+b+text[k+1:])
			}
		}
		texts = append(texts, text[:k], text[k:])
		if k < len(text) {
			texts = append(texts, text[:k]+text[k+1:])
		}
	}
	return texts
}
