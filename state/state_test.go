package state_test

import (
	"fmt"
	"math"
	"reflect"
	"slices"
	"testing"

	"provost/api"
	"provost/session"
	"provost/state"
)

// The chapter's examples.
func TestExamples(t *testing.T) {
	p := newPlay(t, "examples")
	p.run(step{register(), api.Reply{N: 1}}, step{do(1, 1, node("a", 4)), api.Reply{}}, step{do(1, 1, node("a", 4)), api.Reply{}}, step{do(1, 2, node("a", 4)), api.Reply{}})
	p.run(step{do(1, 1, kill("j")), api.Reply{E: api.ErrSeq}}, step{expire(0), api.Reply{N: 1}}, step{do(1, 3, kill("j")), api.Reply{E: api.ErrSession}})
}

// P13.2: a new State has nothing, and is not that of another New.
func TestNew(t *testing.T) {
	s := state.New()
	same(t, "new", s, newAccount())
	if s == state.New() {
		t.Error("twice the same")
	}
}

// P13.2: the zero order changes nothing but the clock; nor does a change of the members.
func TestNone(t *testing.T) {
	p := newPlay(t, "none")
	p.run(step{register(), api.Reply{N: 1}}, step{do(1, 1, node("a", 4)), api.Reply{}})
	nodes := p.s.Nodes()
	p.run(step{api.Order{}, api.Reply{}}, step{conf(1), api.Reply{}}, step{conf(127), api.Reply{}}, step{conf(1), api.Reply{}}, step{api.Order{}, api.Reply{}})
	if !slices.Equal(p.s.Nodes(), nodes) {
		t.Error(p.s.Nodes())
	}
	// Five ticks went by since the session was used, and the sixth does now.
	p.run(step{expire(7), api.Reply{}}, step{expire(7), api.Reply{N: 1}})
}

// P13.2: what is no order's data has ErrForm, and changes nothing but the clock.
func TestBadData(t *testing.T) {
	for _, s := range []string{"x", "\x03\x00", written(api.Order{}), written(api.Order{Kind: 6}), written(do(1, 2, node("a b", 1))), written(api.Order{Kind: 1, ID: 1}), written(conf(0)), written(conf(128)), data(t, conf(3)) + "a", data(t, do(1, 2, kill("j")))[1:]} {
		p := newPlay(t, "bad data")
		p.run(step{register(), api.Reply{N: 1}}, step{do(1, 1, node("a", 4)), api.Reply{}})
		if r := p.apply(s); r != (api.Reply{E: api.ErrForm}) {
			t.Errorf("%x: %+v", s, r)
		}
		p.run(step{expire(3), api.Reply{}}, step{expire(3), api.Reply{N: 1}})
	}
}

// P13.2: sessions are numbered on and on, whatever N is, up to as many as there may be.
func TestRegister(t *testing.T) {
	p := newPlay(t, "register")
	for n := range int64(mostSessions) {
		p.run(step{api.Order{Kind: api.OrderRegister, N: n % 3}, api.Reply{N: n + 1}})
	}
	p.run(step{register(), api.Reply{E: api.ErrMany}}, step{api.Order{Kind: api.OrderRegister, N: end}, api.Reply{E: api.ErrMany}}, step{do(32, 1, node("a")), api.Reply{}}, step{do(33, 1, node("a")), api.Reply{E: api.ErrSession}})
	p.run(step{expire(5), api.Reply{N: 31}}, step{register(), api.Reply{N: 33}}, step{do(33, 1, kill("j")), api.Reply{E: api.ErrNone}}, step{expire(0), api.Reply{N: 2}}, step{register(), api.Reply{N: 34}})
}

// P13.2: no session has a number above MaxIndex.
func TestLastSession(t *testing.T) {
	a := newAccount()
	a.next = end
	loadPlay(t, "last", a.save()).run(step{register(), api.Reply{N: end}}, step{register(), api.Reply{E: api.ErrMany}}, step{do(end, 1, node("a")), api.Reply{}}, step{expire(0), api.Reply{N: 1}}, step{register(), api.Reply{E: api.ErrMany}})
}

// P13.2: a command is executed once for its number, and its reply is told again until the next one is executed.
func TestOnce(t *testing.T) {
	p := newPlay(t, "once")
	p.run(step{do(1, 1, node("a", 4)), api.Reply{E: api.ErrSession}}, step{register(), api.Reply{N: 1}}, step{register(), api.Reply{N: 2}})
	p.run(step{do(1, 1, node("a", 4)), api.Reply{}}, step{do(1, 2, tenant("t", 9)), api.Reply{}}, step{do(1, 3, submit("j", "t", 3)), api.Reply{S: "a"}})
	again := step{do(1, 3, submit("j", "t", 3)), api.Reply{S: "a"}}
	p.run(again, again, step{do(2, 1, kill("j")), api.Reply{S: "a"}}, again)
	if l := p.s.Jobs(); len(l) != 0 {
		t.Error("executed again:", l)
	}
	// Whatever the command is now, the number has its reply.
	p.run(step{do(1, 3, node("b", 4)), api.Reply{S: "a"}}, step{do(2, 1, kill("other")), api.Reply{S: "a"}}, step{do(1, 4, kill("j")), api.Reply{E: api.ErrNone}}, step{do(1, 4, node("b", 4)), api.Reply{E: api.ErrNone}})
	if l := p.s.Nodes(); len(l) != 1 {
		t.Error("executed:", l)
	}
	past := api.Reply{E: api.ErrSeq}
	p.run(step{do(1, 3, submit("j", "t", 3)), past}, step{do(1, 1, node("a", 1)), past}, step{do(1, 6, node("a", 1)), past}, step{do(1, end, node("a", 1)), past}, step{do(3, 1, node("a", 1)), api.Reply{E: api.ErrSession}}, step{do(2, 3, node("a", 1)), past})
	// What wasn't executed may be later.
	p.run(step{do(1, 5, node("a", 2)), api.Reply{}}, step{do(1, 6, node("a", 1)), api.Reply{}}, step{do(2, 2, node("a", 3)), api.Reply{}}, step{do(1, 6, node("a", 1)), api.Reply{}})
	if l := p.s.Nodes(); len(l) != 1 || l[0].Cap != (api.Vec{3}) {
		t.Error(l)
	}
}

// P13.2: the last number of all is executed once too, and none is behind it.
func TestLastNumber(t *testing.T) {
	a := newAccount()
	a.next, a.rows = 2, []row{{id: 1, seq: end - 2}}
	loadPlay(t, "last", a.save()).run(step{do(1, end, node("a")), api.Reply{E: api.ErrSeq}}, step{do(1, end-1, node("a")), api.Reply{}}, step{do(1, end, query(api.CmdDrop, "a")), api.Reply{}}, step{do(1, end, node("a")), api.Reply{}}, step{do(1, end-1, node("a")), api.Reply{E: api.ErrSeq}}, step{do(1, 1, node("a")), api.Reply{E: api.ErrSeq}})
}

// P13.2: every command may be ordered, queries too, and its reply is kept, whatever it is.
func TestReplies(t *testing.T) {
	p := newPlay(t, "replies")
	p.run(step{register(), api.Reply{N: 1}})
	for k, c := range []struct {
		c api.Cmd
		r api.Reply
	}{
		{node("n0", 4, 5, 6), api.Reply{}},
		{tenant("T", 3, 3, 3), api.Reply{}},
		{submit("J", "t", 2, 1, 0), api.Reply{S: "n0"}},
		{query(api.CmdJob, "j"), api.Reply{S: "n0", V: api.Vec{2, 1, 0}}},
		{tell("j", "N0", 2), api.Reply{}},
		{query(api.CmdJob, "j"), api.Reply{S: "n0", V: api.Vec{2, 1, 0}, N: 2}},
		{query(api.CmdUsed, "N0"), api.Reply{V: api.Vec{2, 1, 0}, N: 1}},
		{query(api.CmdSpent, "t"), api.Reply{V: api.Vec{2, 1, 0}, N: 1}},
		{query(api.CmdSpent, "u"), api.Reply{E: api.ErrNone}},
		{submit("j", "t", 1), api.Reply{E: api.ErrTwice}},
		{submit("k", "t", 2), api.Reply{E: api.ErrQuota}},
		{submit("k", "t", 1, 0, 3), api.Reply{S: "n0"}},
		{submit("l", "t", math.MaxInt64), api.Reply{E: api.ErrOver}},
		{node("N0", 2), api.Reply{E: api.ErrUsed}},
		{api.Cmd{Op: api.CmdDrop, Name: "n0"}, api.Reply{E: api.ErrUsed}},
		{api.Cmd{Op: api.CmdDrain, Name: "n0", N: 1}, api.Reply{}},
		{submit("l", "t"), api.Reply{E: api.ErrRoom}},
		{kill("J"), api.Reply{S: "n0"}},
		{tell("j", "n0", 1), api.Reply{E: api.ErrNone}},
		{kill("K"), api.Reply{S: "n0"}},
		{api.Cmd{Op: api.CmdDrop, Name: "n0"}, api.Reply{}},
	} {
		x := step{do(1, int64(k+1), c.c), c.r}
		p.run(x, x, step{api.Order{}, api.Reply{}}, x)
	}
}

// P13.2: a session is used when its number is New or Again, and not otherwise.
func TestUse(t *testing.T) {
	for what, c := range map[string]struct {
		o    api.Order
		used bool
	}{
		"New": {do(1, 2, kill("j")), true}, "Again": {do(1, 1, kill("j")), true}, "Again, of another command": {do(1, 1, node("b")), true}, "New, with a query": {do(1, 2, query(api.CmdUsed, "a")), true},
		"Past": {do(1, 3, kill("j")), false}, "another session": {do(2, 1, kill("j")), false}, "no session": {do(3, 1, kill("j")), false}, "none": {api.Order{}, false}, "a report": {report("j", "a", 1), false}, "conf": {conf(1), false},
	} {
		p := newPlay(t, what)
		p.run(step{register(), api.Reply{N: 1}}, step{register(), api.Reply{N: 2}}, step{do(1, 1, kill("j")), api.Reply{E: api.ErrNone}}, step{do(2, 1, node("a", 1)), api.Reply{}}, step{api.Order{}, api.Reply{}})
		p.apply(data(t, c.o))
		p.apply(data(t, do(2, 1, kill("j"))))
		left := int64(1)
		if c.used {
			left = 0
		}
		p.run(step{expire(3), api.Reply{N: left}})
	}
}

// P13.2: sessions end that weren't used for N ticks, of which every order is one, that of OrderExpire too.
func TestExpire(t *testing.T) {
	// The sessions 1 to 4 are used at 1, 5, 3 and 4, and it is 6 when they expire: that is 5, 1, 3 and 2 ticks ago.
	for idle, ended := range []int64{4, 4, 3, 2, 1, 1, 0} {
		p := newPlay(t, fmt.Sprint("idle ", idle))
		p.run(step{register(), api.Reply{N: 1}}, step{register(), api.Reply{N: 2}}, step{register(), api.Reply{N: 3}}, step{register(), api.Reply{N: 4}}, step{do(2, 1, kill("j")), api.Reply{E: api.ErrNone}})
		p.run(step{expire(int64(idle)), api.Reply{N: ended}})
	}
	p := newPlay(t, "long")
	p.run(step{register(), api.Reply{N: 1}}, step{expire(end), api.Reply{}}, step{do(1, 1, node("a")), api.Reply{}})
	a := newAccount()
	a.clock, a.next, a.rows = end-1, 3, []row{{id: 1}, {id: 2, used: 1}}
	p = loadPlay(t, "as long as there may be", a.save())
	p.run(step{expire(end), api.Reply{N: 1}}, step{expire(end), api.Reply{}}, step{do(2, 1, node("a")), api.Reply{}}, step{expire(1), api.Reply{}}, step{expire(0), api.Reply{N: 1}})
}

// P13.2: an agent's report is done without a session, each time that it is applied.
func TestReport(t *testing.T) {
	p := newPlay(t, "report")
	p.run(step{report("j", "a", 1), api.Reply{E: api.ErrNone}}, step{register(), api.Reply{N: 1}}, step{do(1, 1, node("A", 4)), api.Reply{}}, step{do(1, 2, tenant("t", 4)), api.Reply{}}, step{do(1, 3, submit("J", "t", 4)), api.Reply{S: "A"}})
	status := func(n int64) {
		t.Helper()
		if r := p.s.Ask(query(api.CmdJob, "j")); r != (api.Reply{S: "A", V: api.Vec{4}, N: n}) {
			t.Errorf("%+v", r)
		}
	}
	p.run(step{report("j", "a", 1), api.Reply{}})
	status(1)
	p.run(step{report("j", "a", 2), api.Reply{}}, step{report("j", "a", 2), api.Reply{}}, step{report("j", "b", 1), api.Reply{E: api.ErrNone}}, step{report("k", "a", 1), api.Reply{E: api.ErrNone}})
	status(2)
	p.run(step{expire(0), api.Reply{N: 1}}, step{report("J", "A", 1), api.Reply{}})
	status(1)
}

// P13.2: Check tells a session's verdicts, with the reply that is kept, by the numbers of package session.
func TestCheck(t *testing.T) {
	p := newPlay(t, "check")
	p.run(step{register(), api.Reply{N: 1}}, step{do(1, 1, node("a", 4)), api.Reply{}}, step{do(1, 2, query(api.CmdUsed, "b")), api.Reply{E: api.ErrNone}})
	for _, c := range []struct {
		id, seq int64
		verdict int
		r       api.Reply
	}{
		{1, 2, session.Again, api.Reply{E: api.ErrNone}}, {1, 3, session.New, api.Reply{}}, {1, 1, session.Past, api.Reply{E: api.ErrSeq}}, {1, 4, session.Past, api.Reply{E: api.ErrSeq}},
		{2, 1, session.Gone, api.Reply{E: api.ErrSession}}, {0, 0, session.Gone, api.Reply{E: api.ErrSession}}, {math.MinInt64, math.MinInt64, session.Gone, api.Reply{E: api.ErrSession}},
	} {
		if v, r := p.s.Check(c.id, c.seq); v != c.verdict || r != c.r {
			t.Errorf("%d, %d: %d, %+v", c.id, c.seq, v, r)
		}
	}
}

// P13.2: a State is changed by orders alone: it has no methods but those that the chapter lists.
func TestMethods(t *testing.T) {
	var names []string
	of := reflect.TypeFor[*state.State]()
	for k := range of.NumMethod() {
		names = append(names, of.Method(k).Name)
	}
	if want := []string{"Apply", "Ask", "Check", "Jobs", "Nodes", "Save"}; !slices.Equal(names, want) {
		t.Error(names)
	}
	if of.Elem().NumField() > 0 && of.Elem().Field(0).IsExported() {
		t.Error("a field is everybody's")
	}
}

// R1: no call panics, on no State either. A nil one, and one that neither New nor Load has made, has nothing and takes
// nothing.
func TestOddStates(t *testing.T) {
	for what, s := range map[string]*state.State{"nil": nil, "zero": {}} {
		for _, x := range []step{
			{api.Order{}, api.Reply{}}, {register(), api.Reply{E: api.ErrMany}}, {do(1, 1, node("a", 4)), api.Reply{E: api.ErrSession}}, {expire(0), api.Reply{}}, {conf(7), api.Reply{}}, {report("j", "a", 1), api.Reply{E: api.ErrNone}},
		} {
			if r := s.Apply(data(t, x.o)); r != x.r {
				t.Errorf("%s: %+v: %+v", what, x.o, r)
			}
		}
		if r := s.Apply("x"); r != (api.Reply{E: api.ErrForm}) {
			t.Errorf("%s: %+v", what, r)
		}
		same(t, what, s, newAccount())
		if v, r := s.Check(1, 1); v != session.Gone || r != (api.Reply{E: api.ErrSession}) {
			t.Errorf("%s: %d, %+v", what, v, r)
		}
	}
}

// R3: what is written into what is told changes neither the State nor what is told next.
func TestSharesNothing(t *testing.T) {
	p := newPlay(t, "rows")
	p.run(step{register(), api.Reply{N: 1}}, step{do(1, 1, node("a", 4)), api.Reply{}}, step{do(1, 2, tenant("t", 4)), api.Reply{}}, step{do(1, 3, submit("j", "t", 3)), api.Reply{S: "a"}})
	nodes, jobs := p.s.Nodes(), p.s.Jobs()
	nodes[0].Name, nodes[0].Cap, jobs[0].Node, jobs[0].Status = "b", api.Vec{9}, "b", 2
	same(t, "written into", p.s, p.a)
	nodes, jobs = p.s.Nodes(), p.s.Jobs()
	p.run(step{do(1, 4, kill("j")), api.Reply{S: "a"}}, step{do(1, 5, node("a", 1)), api.Reply{}})
	if nodes[0].Cap != (api.Vec{4}) || jobs[0].Name != "j" {
		t.Error(nodes, jobs)
	}
}

// R5: States are apart from each other, also one that was loaded of what the other saved.
func TestTwoStates(t *testing.T) {
	p, q := newPlay(t, "one"), newPlay(t, "other")
	p.run(step{register(), api.Reply{N: 1}}, step{do(1, 1, node("a", 4)), api.Reply{}})
	same(t, "other", q.s, q.a)
	q.run(step{do(1, 1, node("a", 4)), api.Reply{E: api.ErrSession}}, step{register(), api.Reply{N: 1}}, step{do(1, 1, node("b", 5)), api.Reply{}})
	r := loadPlay(t, "loaded", p.s.Save())
	p.run(step{do(1, 2, api.Cmd{Op: api.CmdDrop, Name: "a"}), api.Reply{}}, step{register(), api.Reply{N: 2}})
	r.run(step{do(1, 2, tenant("t")), api.Reply{}}, step{do(1, 3, submit("j", "t")), api.Reply{S: "a"}}, step{do(2, 1, kill("j")), api.Reply{E: api.ErrSession}})
	for _, x := range []*play{p, q, r} {
		same(t, x.what, x.s, x.a)
	}
}
