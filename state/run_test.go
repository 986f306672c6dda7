package state_test

import (
	"fmt"
	"math/rand"
	"testing"

	"provost/api"
	"provost/item"
	"provost/state"
)

// dice makes data by lot, of orders for sessions and things that there are or have been, or aren't.
type dice struct {
	*rand.Rand
	sent []string // all that was made
	calm int      // how many times OrderExpire is left out for once that it is made
}

// command is any valid command, out of a few names.
func (d *dice) command() api.Cmd {
	name := func() string { return []string{"a", "B", "b", "c", "D"}[d.Intn(5)] }
	amount := func() int64 { return int64(d.Intn(6)) }
	switch d.Intn(16) {
	case 0, 1:
		return node(name(), 4+amount(), 4+amount())
	case 2:
		return tenant(name(), 4+amount(), 4+amount())
	case 3:
		return query(api.CmdDrop, name())
	case 4:
		return api.Cmd{Op: api.CmdDrain, Name: name(), N: int64(d.Intn(2))}
	case 5, 6:
		return kill(name())
	case 7:
		return tell(name(), name(), int64(1+d.Intn(2)))
	case 8, 9:
		return query(api.CmdJob+d.Intn(3), name())
	}
	return submit(name(), name(), amount(), amount())
}

// session is a session's number, mostly of one that is there, with a sequence number, mostly the next or the last one.
func (d *dice) session(a *account) (id, seq int64) {
	id = a.next - int64(d.Intn(8))
	if l := a.sessions(); len(l) > 0 && d.Intn(8) > 0 {
		id = l[d.Intn(len(l))]
	}
	last := int64(0)
	if k := a.at(id); k >= 0 {
		last = a.rows[k].seq
	}
	return max(id, 1), max(last+[]int64{1, 1, 1, 1, 1, 0, 0, -1, 2, int64(d.Intn(9))}[d.Intn(10)], 1)
}

// order is any valid order.
func (d *dice) order(a *account) api.Order {
	switch n := d.Intn(40); {
	case n == 0 && d.Intn(d.calm) == 0:
		return expire(int64(d.Intn(20)))
	case n < 3:
		return register()
	case n < 5:
		return conf(int64(1 + d.Intn(127)))
	case n < 7:
		return api.Order{}
	case n < 11:
		return api.Order{Kind: api.OrderReport, C: tell([]string{"a", "b", "C", "d"}[d.Intn(4)], []string{"A", "b", "c", "D"}[d.Intn(4)], int64(1+d.Intn(2)))}
	}
	id, seq := d.session(a)
	return do(id, seq, d.command())
}

// data is the data of any order, of one that was made already, or of none.
func (d *dice) data(t *testing.T, a *account) string {
	t.Helper()
	n := d.Intn(12)
	if n == 0 {
		return written(do(1, 0, kill("a")))
	}
	if n < 4 && len(d.sent) > 0 {
		return d.sent[d.Intn(len(d.sent))]
	}
	s := data(t, d.order(a))
	d.sent = append(d.sent, s)
	return s
}

// clusterIn is what is saved of the scheduler's state.
func clusterIn(s *state.State) string { return encoded(itemIn(s.Save()).L[0]) }

// key is a session's sequence number.
type key struct{ id, seq int64 }

// history is what came of every sequence number that was executed.
type history map[key]api.Reply

// check checks what was applied: a number that was executed, and no other, has its reply while it is the last one of
// its session; what was executed once, and what has an error of the session, has no effect on the scheduler's state.
func (h history) check(p *play, data, before string, verdict int, r api.Reply) {
	p.t.Helper()
	o, _ := orderIn(data)
	if o.Kind != api.OrderDo {
		return
	}
	k := key{o.ID, o.Seq}
	done, executed := h[k]
	if executed && verdict == 1 || !executed && verdict == 2 {
		p.t.Fatalf("%s: %+v: %t, %d", p.what, o, executed, verdict)
	}
	if executed && r != done && r.E != api.ErrSeq && r.E != api.ErrSession {
		p.t.Fatalf("%s: %+v: %+v, not %+v", p.what, o, r, done)
	}
	if verdict == 1 {
		h[k] = r
	} else if after := clusterIn(p.s); after != before {
		p.t.Fatalf("%s: %+v has changed %x to %x", p.what, o, before, after)
	}
}

// verdictOn is the verdict on an order's number, or 0 if it has none.
func verdictOn(s *state.State, data string) int {
	o, may := orderIn(data)
	if !may || o.Kind != api.OrderDo {
		return 0
	}
	verdict, _ := s.Check(o.ID, o.Seq)
	return verdict
}

// P13.2 to P13.4: long runs of any orders, held against the second account, against what is loaded of what was saved,
// and against all that was executed. What is applied a second time at once doesn't change the scheduler's state.
func TestLongRuns(t *testing.T) {
	seen := map[string]int{}
	for seed := range int64(12) {
		p := newPlay(t, fmt.Sprint("run ", seed))
		d := &dice{Rand: rand.New(rand.NewSource(seed)), calm: 1 + int(seed%3)*2}
		h := history{}
		for range 600 {
			s := d.data(t, p.a)
			for turn := range 1 + d.Intn(2) {
				before, verdict := clusterIn(p.s), verdictOn(p.s, s)
				r := p.apply(s)
				h.check(p, s, before, verdict, r)
				if after := clusterIn(p.s); turn > 0 && after != before {
					t.Fatalf("%s: %x, a second time, has changed %x to %x", p.what, s, before, after)
				}
				o, _ := orderIn(s)
				seen[fmt.Sprint(o.Kind, " ", verdict, " ", r.E)]++
			}
			if d.Intn(20) == 0 && seed%2 == 0 {
				p.s, _ = state.Load(p.s.Save())
			}
		}
	}
	for _, what := range []string{"0 0 0", "0 0 4", "1 0 0", "1 0 3", "2 1 0", "2 1 10", "2 1 11", "2 1 12", "2 1 13", "2 1 14", "2 2 0", "2 2 10", "2 2 13", "2 3 20", "2 4 21", "3 0 0", "4 0 0", "5 0 0", "5 0 10"} {
		if seen[what] < 10 {
			t.Errorf("kind, verdict, error %s: only %d times", what, seen[what])
		}
	}
}

// P13.4: replicas that apply the same orders have the same states and give the same replies, also one that begins with
// a snapshot; what is sent twice or more is executed once.
func TestReplicas(t *testing.T) {
	for seed := range int64(6) {
		d := &dice{Rand: rand.New(rand.NewSource(100 + seed)), calm: 9}
		a := newAccount()
		replicas := []*state.State{state.New()}
		for n := range 400 {
			s := d.data(t, a)
			want := a.apply(s)
			for k, r := range replicas {
				if got := r.Apply(s); got != want {
					t.Fatalf("run %d, order %d, replica %d: %+v, not %+v", seed, n, k, got, want)
				}
				if r.Save() != replicas[0].Save() {
					t.Fatalf("run %d, order %d: replica %d differs", seed, n, k)
				}
			}
			if n%80 == 40 {
				late, e := state.Load(replicas[0].Save())
				if e != api.OK {
					t.Fatal(e)
				}
				replicas = append(replicas, late)
			}
		}
	}
}

// P13.2, P13.4: all scripts of so many orders out of a few, held against the second account.
func TestAllScripts(t *testing.T) {
	var l []string
	for _, o := range []api.Order{{}, register(), do(1, 1, node("a", 3)), do(1, 2, tenant("t", 3)), do(1, 1, tenant("t", 2)), do(1, 2, node("a", 2)), do(1, 3, submit("j", "t", 1)), do(2, 1, kill("j")), expire(2), report("j", "a", 1)} {
		l = append(l, data(t, o))
	}
	for script := range 100000 {
		s, a := state.New(), newAccount()
		for rest := script + 100000; rest > 1; rest /= 10 {
			x := l[rest%10]
			if got, want := s.Apply(x), a.apply(x); got != want {
				t.Fatalf("script %d: %x: %+v, not %+v", script, x, got, want)
			}
		}
		if got, want := s.Save(), a.save(); got != want {
			t.Fatalf("script %d: %x, not %x", script, got, want)
		}
	}
}

// P13.3: States that orders came to, changed in one place or another, are loaded just where both parts are, and go on
// as the second account has it.
func TestLoadChanged(t *testing.T) {
	d := &dice{Rand: rand.New(rand.NewSource(13)), calm: 9}
	count := 0
	for round := range 60 {
		p := newPlay(t, fmt.Sprint("changed ", round))
		for range 60 {
			s := d.data(t, p.a)
			p.s.Apply(s)
			p.a.apply(s)
		}
		for range 60 {
			i := itemIn(p.a.save())
			change(d, &i)
			text := encoded(i)
			if !checkLoad(t, p.what, text) || text == p.a.save() {
				continue
			}
			count++
			q := loadPlay(t, p.what, text)
			for range 10 {
				q.apply(d.data(t, q.a))
			}
		}
	}
	if count < 300 || count > 3000 {
		t.Errorf("of 3600 %d are loaded: too few or too many", count)
	}
}

// change changes one number of an item, or swaps or drops a part of a list.
func change(d *dice, i *api.Item) {
	for i.Kind == api.List && len(i.L) > 0 && d.Intn(12) > 0 {
		i = &i.L[d.Intn(len(i.L))]
	}
	switch {
	case i.Kind == api.Number:
		i.N += []int64{1, -1, 2, 10}[d.Intn(4)]
	case i.Kind == api.Text:
		i.S += "x"
	case len(i.L) > 1:
		i.L[0], i.L[1] = i.L[1], i.L[0]
	default:
		i.L = append(i.L, item.Number(1))
	}
}
