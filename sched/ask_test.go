package sched_test

import (
	"testing"

	"provost/api"
	"provost/sched"
)

// P11.2: what is answered of jobs, nodes and tenants, by whatever spelling, by Ask and by Do.
func TestAsk(t *testing.T) {
	p := newPlay(t, "ask")
	p.run("node Aa 9 9 9; node b 9 9 9; node c 1; tenant Tt 9 9 9; tenant u 9; tenant v")
	p.run("submit Jj tt 1 2 3: Aa; submit k tt 4 5 6: b; submit l u 2: Aa; submit m u: c; report k b 1; report l aa 2; drain b 1")
	before := p.s.Save()
	for _, c := range []struct {
		op   int
		name []string
		want api.Reply
	}{
		{api.CmdJob, []string{"Jj", "jj", "JJ", "jJ"}, api.Reply{S: "Aa", V: api.Vec{1, 2, 3}}},
		{api.CmdJob, []string{"k", "K"}, api.Reply{S: "b", V: api.Vec{4, 5, 6}, N: api.JobRunning}},
		{api.CmdJob, []string{"l", "L"}, api.Reply{S: "Aa", V: api.Vec{2}, N: api.JobFailed}},
		{api.CmdJob, []string{"m"}, api.Reply{S: "c"}},
		{api.CmdJob, []string{"Aa", "b", "Tt", "u", "x", "j", "Jjj"}, api.Reply{E: api.ErrNone}},
		{api.CmdUsed, []string{"Aa", "aa", "AA"}, api.Reply{V: api.Vec{3, 2, 3}, N: 2}},
		{api.CmdUsed, []string{"b", "B"}, api.Reply{V: api.Vec{4, 5, 6}, N: 1}},
		{api.CmdUsed, []string{"c"}, api.Reply{N: 1}},
		{api.CmdUsed, []string{"Jj", "Tt", "u", "x"}, api.Reply{E: api.ErrNone}},
		{api.CmdSpent, []string{"Tt", "tt", "TT"}, api.Reply{V: api.Vec{5, 7, 9}, N: 2}},
		{api.CmdSpent, []string{"u", "U"}, api.Reply{V: api.Vec{2}, N: 2}},
		{api.CmdSpent, []string{"v"}, api.Reply{}},
		{api.CmdSpent, []string{"Aa", "b", "Jj", "x"}, api.Reply{E: api.ErrNone}},
	} {
		for _, s := range c.name {
			q := api.Cmd{Op: c.op, Name: s}
			if got := p.s.Ask(q); got != c.want {
				t.Errorf("%v: %v, not %v", q, got, c.want)
			}
			if got := p.do(q); got != c.want {
				t.Errorf("%v, done: %v, not %v", q, got, c.want)
			}
		}
	}
	if p.s.Save() != before {
		t.Error("something has changed")
	}
}

// P11.2: valid commands that aren't queries are ErrForm, and are not done.
func TestAskForCommands(t *testing.T) {
	p := newPlay(t, "no queries")
	p.run("node a 9; tenant t 9; submit j t 1: a; node b")
	before := p.s.Save()
	for _, line := range []string{"node a 4", "node c 4", "drain a 1", "drain a 0", "drop b", "drop c", "tenant t 4", "tenant u 4", "submit k t 1", "submit j t 1", "kill j", "kill k", "report j a 1", "report j b 1"} {
		if r := p.s.Ask(command(line)); r != (api.Reply{E: api.ErrForm}) || p.s.Save() != before {
			t.Errorf("%s: %v", line, r)
		}
	}
	check(t, p.what, p.s, p.a)
}

// R3: what is written into rows changes neither what they are made of nor other rows.
func TestSharesNothing(t *testing.T) {
	p := newPlay(t, "rows")
	p.run("node a 9 9 9; node b 9 9 9; tenant t 9 9 9; tenant u 9; submit i t 1 2 3: a; submit j t 2: b; submit k u 1: a")
	s, e := sched.Load(p.s.Save())
	if e != api.OK {
		t.Fatal(e)
	}
	for _, s := range []*sched.Sched{p.s, s} {
		nodes, tenants, jobs := s.Nodes(), s.Tenants(), s.Jobs()
		for i := range nodes {
			nodes[i] = api.Node{Name: "x", Cap: api.Vec{1}, Used: api.Vec{5, 5, 5}, Drain: true}
		}
		for i := range tenants {
			tenants[i] = api.Tenant{Name: "x", Used: api.Vec{5, 5, 5}}
		}
		for i := range jobs {
			jobs[i] = api.Job{Name: "x", Node: "y", Status: 9}
		}
		nodes, tenants, jobs = append(nodes[:1], nodes...), append(tenants[:1], tenants...), append(jobs[:1], jobs...)
		check(t, "written into", s, p.a)
		// Nor do rows change with what they were made of.
		nodes, tenants, jobs = s.Nodes(), s.Tenants(), s.Jobs()
		wantNodes, wantTenants, wantJobs := p.a.rows()
		for _, line := range []string{"kill i", "kill j", "kill k", "node a 1", "drain b 1", "tenant t 1", "drop a"} {
			if r := s.Do(command(line)); r.E != api.OK {
				t.Fatal(line, r)
			}
		}
		for i := range nodes {
			if nodes[i] != wantNodes[i] {
				t.Errorf("%v has become %v", wantNodes[i], nodes[i])
			}
		}
		for i := range tenants {
			if tenants[i] != wantTenants[i] {
				t.Errorf("%v has become %v", wantTenants[i], tenants[i])
			}
		}
		for i := range jobs {
			if jobs[i] != wantJobs[i] {
				t.Errorf("%v has become %v", wantJobs[i], jobs[i])
			}
		}
	}
}

// R5: Scheds are apart from each other.
func TestTwoScheds(t *testing.T) {
	p, q := newPlay(t, "one"), newPlay(t, "other")
	p.run("node a 9; tenant t 9; submit j t 1: a")
	check(t, "other", q.s, q.a)
	q.run("node a 4; used a: 0,0,0/0; tenant t 3; submit j t 2: a")
	p.run("used a: 1,0,0/1; kill j: a")
	q.run("job j: a 2,0,0/0")
	r, e := sched.Load(q.s.Save())
	if e != api.OK {
		t.Fatal(e)
	}
	q.run("kill j: a; drop a")
	if got := state(r); got != "a=4,0,0<2,0,0 | t=3,0,0<2,0,0 | j:t@a=2,0,0/0" {
		t.Error(got)
	}
}

// R1: no call panics, on no Sched either. A nil one has nothing, and keeps nothing; the zero value is as New makes it.
func TestOddScheds(t *testing.T) {
	var none *sched.Sched
	for _, line := range []string{"node a 4", "drain a 1", "drop a", "tenant t 4", "submit j t 1", "kill j", "report j a 1", "job j", "used a", "spent t"} {
		c := command(line)
		if r := none.Do(c); r.E == api.OK {
			t.Errorf("nil, %s: %v", line, r)
		}
		if r := none.Ask(c); r.E == api.OK {
			t.Errorf("nil, asked %s: %v", line, r)
		}
	}
	for _, c := range notCommands() {
		if r := none.Do(c); r != (api.Reply{E: api.ErrForm}) {
			t.Errorf("nil, %.200s: %v", told(c), r)
		}
	}
	check(t, "nil", none, &account{})
	p := newPlay(t, "zero")
	p.s = &sched.Sched{}
	p.run("used a: None; kill a: None; drop a: None; node a 4; tenant t 3; submit j t 2: a; kill j: a; drop a")
}
