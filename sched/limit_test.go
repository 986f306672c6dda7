package sched_test

import (
	"fmt"
	"strings"
	"testing"

	"provost/api"
	"provost/sched"
)

// P11.1: as many nodes and tenants as there may be, and no more. Those that are there may be changed.
func TestMostNodesAndTenants(t *testing.T) {
	for _, c := range []struct {
		word string
		most int
	}{{"node", mostNodes}, {"tenant", mostTenants}} {
		p := newPlay(t, "most "+c.word+"s")
		p.run("node x 9; tenant y 9; submit j y 5: x")
		for i := 1; i < c.most; i++ {
			p.run(fmt.Sprintf("%s n%d %d", c.word, i, i))
		}
		for range 2 {
			p.run(fmt.Sprintf("%s n 1: Many; %s N%d: Many", c.word, c.word, c.most))
			p.run(fmt.Sprintf("%s N1 7; %s n%d 8", c.word, c.word, c.most-1))
		}
	}
	// Too little for what is used isn't too many, and what is gone makes room.
	p := newPlay(t, "most nodes")
	p.run("node x 9; tenant y 9; submit j y 5: x")
	for i := 1; i < mostNodes; i++ {
		p.run(fmt.Sprintf("node n%d %d", i, i%5))
	}
	p.run("node X 4: Used; node n 9: Many; node X 5; drop n7; node n 9; node n7 1: Many; drop x: Used; kill j: x; drop X; node N7 1; node x: Many")
	for i := 1; i < mostTenants; i++ {
		p.run(fmt.Sprintf("tenant t%d %d", i, i))
	}
	p.run("submit j y 3: n; tenant Y 2: Quota; tenant t 9: Many; tenant Y 3; tenant t: Many; spent t: None")
}

// jobName is one of MaxJobs names and more.
func jobName(i int) string { return fmt.Sprintf("j%03d", i) }

// full makes a play with nodes and tenants and as many jobs as there may be.
func full(t *testing.T) *play {
	p := newPlay(t, "full")
	for i := range mostNodes {
		s := fmt.Sprintf("%s%02d", strings.Repeat("N", 20), i)
		p.a.do(api.Cmd{Op: api.CmdNode, Name: s, V: api.Vec{top, int64(i), 1 << 40}})
		p.s.Do(api.Cmd{Op: api.CmdNode, Name: s, V: api.Vec{top, int64(i), 1 << 40}})
	}
	for i := range mostTenants {
		s := fmt.Sprintf("%s%02d", strings.Repeat("😀", 22), i)
		p.a.do(api.Cmd{Op: api.CmdTenant, Name: s, V: api.Vec{top, top, int64(i) << 30}})
		p.s.Do(api.Cmd{Op: api.CmdTenant, Name: s, V: api.Vec{top, top, int64(i) << 30}})
	}
	for i := range mostJobs {
		c := api.Cmd{Op: api.CmdSubmit, Name: jobName(i), Of: p.a.tenants[i%mostTenants].Name, V: api.Vec{int64(i), 0, int64(i % 3)}}
		want := p.a.do(c)
		if got := p.s.Do(c); got != want {
			t.Fatalf("%v: %v, not %v", c, got, want)
		}
	}
	return p
}

// P11.1, P11.3: as many jobs as there may be, and no more, which can all be saved and loaded.
func TestMostJobs(t *testing.T) {
	p := full(t)
	check(t, "full", p.s, p.a)
	if n := len(p.s.Jobs()); n < 100 {
		t.Fatalf("%d jobs", n)
	}
	of := p.a.tenants[31].Name
	fill := func() {
		for i := 0; len(p.a.jobs) < mostJobs; i++ {
			if r := p.do(api.Cmd{Op: api.CmdSubmit, Name: fmt.Sprint("x", i), Of: of}); r.E != api.OK && r.E != api.ErrTwice {
				t.Fatal(r)
			}
		}
	}
	fill()
	for _, c := range []api.Cmd{
		{Op: api.CmdSubmit, Name: "k", Of: of}, {Op: api.CmdSubmit, Name: "k", Of: "none"}, {Op: api.CmdSubmit, Name: "k", Of: of, V: api.Vec{top, top, top}},
	} {
		if r := p.do(c); r != (api.Reply{E: api.ErrMany}) {
			t.Errorf("%v: %v", c, r)
		}
	}
	for _, s := range []string{p.a.jobs[0].Name, p.a.jobs[77].Name, p.a.jobs[mostJobs-1].Name} {
		up := strings.ToUpper(s)
		if r := p.do(api.Cmd{Op: api.CmdSubmit, Name: up, Of: of}); r != (api.Reply{E: api.ErrTwice}) {
			t.Errorf("%s: %v", s, r)
		}
		if r := p.do(api.Cmd{Op: api.CmdKill, Name: up}); r.E != api.OK {
			t.Errorf("%s: %v", s, r)
		}
		fill()
		if r := p.do(api.Cmd{Op: api.CmdSubmit, Name: "k", Of: of}); r != (api.Reply{E: api.ErrMany}) {
			t.Errorf("%s: %v", s, r)
		}
	}
	if len(p.s.Jobs()) != mostJobs || len(p.s.Nodes()) != mostNodes || len(p.s.Tenants()) != mostTenants {
		t.Errorf("%d jobs, %d nodes, %d tenants", len(p.s.Jobs()), len(p.s.Nodes()), len(p.s.Tenants()))
	}
}

// P11.3: of what is at the limits nothing more is loaded.
func TestLoadTooMany(t *testing.T) {
	p := full(t)
	for i := 0; len(p.a.jobs) < mostJobs; i++ {
		p.do(api.Cmd{Op: api.CmdSubmit, Name: fmt.Sprint("x", i), Of: p.a.tenants[0].Name})
	}
	if _, e := sched.Load(p.a.save()); e != api.OK {
		t.Fatal(e)
	}
	for k, more := range []func(){
		func() { p.a.nodes = append(p.a.nodes, api.Node{Name: "more"}) },
		func() { p.a.tenants = append(p.a.tenants, api.Tenant{Name: "more"}) },
		func() {
			p.a.jobs = append(p.a.jobs, api.Job{Name: "more", Tenant: p.a.tenants[0].Name, Node: p.a.nodes[0].Name})
		},
	} {
		kept := *p.a
		more()
		if s, e := sched.Load(p.a.save()); s != nil || e != api.ErrForm {
			t.Errorf("%d: %d", k, e)
		}
		*p.a = kept
	}
	if _, e := sched.Load(p.a.save()); e != api.OK {
		t.Error(e)
	}
}
