package sched_test

import (
	"fmt"
	"math"
	"strings"
	"testing"

	"provost/api"
	"provost/sched"
)

// Nothing is there at first.
func TestNew(t *testing.T) {
	s := sched.New()
	if s == nil || len(s.Nodes()) != 0 || len(s.Tenants()) != 0 || len(s.Jobs()) != 0 {
		t.Fatalf("%v", s)
	}
	check(t, "new", s, &account{})
	tell(t, story{"used a: None; spent a: None; job a: None; kill a: None; drop a: None; drain a 1: None; report a b 1: None; submit a b: None", "| |"})
	if sched.New() == s {
		t.Error("there is only one")
	}
}

// P11.1: the chapter's examples.
func TestExamples(t *testing.T) {
	tell(t,
		story{"node a 4; tenant t 3; submit j t 2: a; submit k T 2: Quota; submit J t 1: Twice", "a=4,0,0<2,0,0 | t=3,0,0<2,0,0 | j:t@a=2,0,0/0"},
		story{"node a 4; tenant t 3; submit j t 2: a; submit k T 2: Quota; submit J t 1: Twice; drop A: Used; kill j: a; drop A", "| t=3,0,0<0,0,0 |"},
	)
}

// P11.1: CmdNode creates a node that isn't drained, or changes its capacity and nothing else.
func TestNode(t *testing.T) {
	tell(t,
		story{"node a", "a=0,0,0<0,0,0 | |"},
		story{"node a 1 2 3; node a 3 2 1", "a=3,2,1<0,0,0 | |"},
		story{"node a 1 2 3; node a", "a=0,0,0<0,0,0 | |"},
		story{"node a 4; drain a 1; node a 5", "a=5,0,0<0,0,0! | |"},
		story{"node a 4; drain a 1; drop a; node a 5", "a=5,0,0<0,0,0 | |"},
		story{"node Ab 4; node aB 5; node AB 6; node ab 7", "Ab=7,0,0<0,0,0 | |"},
		story{"node a 4; tenant a 4; submit a a 2: a; node a 1: Used; node A 2; submit b a: a; node a 3", "a=3,0,0<2,0,0 | a=4,0,0<2,0,0 | a:a@a=2,0,0/0 b:a@a=0,0,0/0"},
		story{"node a 9223372036854775807 9223372036854775807 9223372036854775807", "a=9223372036854775807,9223372036854775807,9223372036854775807<0,0,0 | |"},
	)
}

// P11.1: a capacity, or a quota, may be lowered to just what is used, and in no resource below it.
func TestLowered(t *testing.T) {
	for _, used := range []int64{1, 2, 300, top - 1, top} {
		for i := range api.Resources {
			v := api.Vec{5, 6, 7}
			v[i] = used
			p := newPlay(t, fmt.Sprint("lowered: ", v))
			most := api.Vec{top, top, top}
			p.do(api.Cmd{Op: api.CmdNode, Name: "a", V: most})
			p.do(api.Cmd{Op: api.CmdTenant, Name: "t", V: most})
			if r := p.do(api.Cmd{Op: api.CmdSubmit, Name: "j", Of: "t", V: v}); r.E != api.OK {
				t.Fatalf("%v: %v", v, r)
			}
			for below := range 3 {
				w := v
				w[i] = max(0, used-int64(below))
				node, tenant := api.OK, api.OK
				if below > 0 {
					node, tenant = api.ErrUsed, api.ErrQuota
				}
				if r := p.do(api.Cmd{Op: api.CmdNode, Name: "A", V: w}); r != (api.Reply{E: node}) {
					t.Errorf("%v to %v: %v", v, w, r)
				}
				if r := p.do(api.Cmd{Op: api.CmdTenant, Name: "T", V: w}); r != (api.Reply{E: tenant}) {
					t.Errorf("%v to %v: %v", v, w, r)
				}
			}
			p.do(api.Cmd{Op: api.CmdKill, Name: "j"})
			for _, op := range []int{api.CmdNode, api.CmdTenant} {
				if r := p.do(api.Cmd{Op: op, Name: map[int]string{api.CmdNode: "a", api.CmdTenant: "t"}[op]}); r != (api.Reply{}) {
					t.Errorf("unused: %v", r)
				}
			}
		}
	}
}

// P11.1: CmdDrain.
func TestDrain(t *testing.T) {
	tell(t,
		story{"drain a 1: None; drain a 0: None; node a 4; drain b 1: None", "a=4,0,0<0,0,0 | |"},
		story{"node a 4; node b 4; drain A 1; drain a 1", "a=4,0,0<0,0,0! b=4,0,0<0,0,0 | |"},
		story{"node a 4; drain a 1; drain A 0; drain A 0", "a=4,0,0<0,0,0 | |"},
		// What is on a drained node stays, and counts; nothing comes to it.
		story{"node a 4; node b 4; tenant t 9; submit i t 1: a; drain a 1; submit j t 1: b; submit k t 1: b; submit l t 3: Room; report i a 1; used a: 1,0,0/1; kill i: a; submit l t 0: b; drain A 0; submit i t 1: a",
			"a=4,0,0<1,0,0 b=4,0,0<2,0,0 | t=9,0,0<3,0,0 | i:t@a=1,0,0/0 j:t@b=1,0,0/0 k:t@b=1,0,0/0 l:t@b=0,0,0/0"},
		story{"node a 4; tenant t 9; submit i t 3: a; drain a 1; node a 2: Used; node a 3; drop a: Used; submit j t: Room; kill i: a; drop a", "| t=9,0,0<0,0,0 |"},
		story{"node a 4; node b 4; drain a 1; drain b 1; tenant t 9; submit j t: Room; drain b 0; submit j t: b", "a=4,0,0<0,0,0! b=4,0,0<0,0,0 | t=9,0,0<0,0,0 | j:t@b=0,0,0/0"},
	)
}

// P11.1: CmdDrop removes a node without jobs; one with a job that demands nothing has one too.
func TestDrop(t *testing.T) {
	tell(t,
		story{"drop a: None; node a 4; drop b: None; drop a; drop a: None; used a: None", "| |"},
		story{"node A 4; node b 4; drop a; node a 5", "a=5,0,0<0,0,0 b=4,0,0<0,0,0 | |"},
		story{"node a; tenant t; submit j t: a; drop a: Used; drop A: Used; report j a 2; drop a: Used; kill j: a; drop a", "| t=0,0,0<0,0,0 |"},
		story{"node a 4; node b 4; tenant t 9; submit i t 1: a; submit j t 1: b; submit k t 1: a; drop a: Used; kill i: a; drop a: Used; drop b: Used; kill k: a; drop a; drop b: Used; submit k t 1: b",
			"b=4,0,0<2,0,0 | t=9,0,0<2,0,0 | j:t@b=1,0,0/0 k:t@b=1,0,0/0"},
	)
}

// P11.1: CmdTenant creates a tenant, or changes its quota and nothing else.
func TestTenant(t *testing.T) {
	tell(t,
		story{"tenant t", "| t=0,0,0<0,0,0 |"},
		story{"tenant t 1 2 3; tenant t 3 2 1", "| t=3,2,1<0,0,0 |"},
		story{"tenant Tt 1; tenant tT 2; tenant tt 3", "| Tt=3,0,0<0,0,0 |"},
		story{"node a 9; tenant t 9; tenant u 9; submit i t 2: a; submit j u 3: a; submit k t 4: a; tenant t 5: Quota; tenant T 6; tenant u 2: Quota; tenant u 3; kill k: a; tenant t 2; tenant t 1: Quota",
			"a=9,0,0<5,0,0 | t=2,0,0<2,0,0 u=3,0,0<3,0,0 | i:t@a=2,0,0/0 j:u@a=3,0,0/0"},
		// Nodes, tenants and jobs of the same name are three things.
		story{"node a 9; tenant A 8; submit a a 1: a; tenant a 7; node A 6; used a: 1,0,0/1; spent a: 1,0,0/1; job A: a 1,0,0/0", "a=6,0,0<1,0,0 | A=7,0,0<1,0,0 | a:A@a=1,0,0/0"},
	)
}

// P11.1: CmdSubmit, with each of its errors.
func TestSubmit(t *testing.T) {
	tell(t,
		story{"tenant t 9; submit j t: Room; submit j u: None; submit j a: None", "| t=9,0,0<0,0,0 |"},
		story{"node a 9; submit j a: None; submit j t: None", "a=9,0,0<0,0,0 | |"},
		story{"node a 4; tenant t 3; submit j t 4: Quota; submit j t 3: a; submit k t 1: Quota; submit k t: a", "a=4,0,0<3,0,0 | t=3,0,0<3,0,0 | j:t@a=3,0,0/0 k:t@a=0,0,0/0"},
		story{"node a 3; tenant t 9; submit j t 4: Room; submit j t 3: a; submit k t 1: Room; submit k t: a", "a=3,0,0<3,0,0 | t=9,0,0<3,0,0 | j:t@a=3,0,0/0 k:t@a=0,0,0/0"},
		story{"node a 4 4 4; tenant t 9 9 9; submit j t 1 2 3: a; submit k t 3 2 2: Room; submit k t 4 2 1: Room; submit k t 3 3 1: Room; submit k t 3 2 1: a", "..| t=9,9,9<4,4,4 | j:t@a=1,2,3/0 k:t@a=3,2,1/0"},
		story{"node a 9 9 9; tenant t 4 4 4; submit j t 1 2 3: a; submit k t 3 2 2: Quota; submit k t 4 2 1: Quota; submit k t 3 3 1: Quota; submit k t 3 2 1: a", "..| t=4,4,4<4,4,4 | j:t@a=1,2,3/0 k:t@a=3,2,1/0"},
		// The quota of one tenant is nothing to another, nor is the node of one job to its tenant's next.
		story{"node a 2; node b 2; tenant t 3; tenant u 1; submit i t 2: a; submit j t 1: b; submit k t 1: Quota; submit k u 1: b; submit l u 1: Quota", "..| t=3,0,0<3,0,0 u=1,0,0<1,0,0 | i:t@a=2,0,0/0 j:t@b=1,0,0/0 k:u@b=1,0,0/0"},
		// What was killed may come again, also in another spelling.
		story{"node a 4; tenant t 4; submit Jj t 4: a; submit jj t: Twice; submit jJ t 9: Twice; kill jj: a; submit jJ t 3: a", "a=4,0,0<3,0,0 | t=4,0,0<3,0,0 | jJ:t@a=3,0,0/0"},
	)
}

// P11.1: a sum that 64 bits don't hold is ErrOver, which goes ahead of the quota; one that they just hold isn't.
func TestOver(t *testing.T) {
	for i := range api.Resources {
		for _, used := range []int64{1, 2, top / 2, top - 1, top} {
			p := newPlay(t, fmt.Sprint("over: ", i, " ", used))
			at := func(n int64) api.Vec {
				v := api.Vec{1, 1, 1}
				v[i] = n
				return v
			}
			all := api.Vec{top, top, top}
			p.do(api.Cmd{Op: api.CmdNode, Name: "a", V: all})
			p.do(api.Cmd{Op: api.CmdNode, Name: "b", V: all})
			p.do(api.Cmd{Op: api.CmdTenant, Name: "t", V: all})
			p.do(api.Cmd{Op: api.CmdTenant, Name: "u", V: all})
			for _, c := range []struct {
				name, of string
				n        int64
				e        api.Errno
			}{
				{"j", "t", used, api.OK},
				{"k", "t", top, api.ErrOver},
				{"k", "t", top - used + 1, api.ErrOver},
				{"k", "u", top - used + 1, api.OK}, // on the other node, or there would be an overflow there
				{"l", "t", top - used, api.OK},
				{"m", "t", 1, api.ErrOver},
				{"m", "t", 0, api.OK},
			} {
				if c.n > top || c.n < 0 {
					continue
				}
				r := p.do(api.Cmd{Op: api.CmdSubmit, Name: c.name, Of: c.of, V: at(c.n)})
				if r.E != c.e {
					t.Errorf("resource %d, %d used: %s of %s of %d: %d, not %d", i, used, c.name, c.of, c.n, r.E, c.e)
				}
			}
		}
	}
	// No node has room where the sum would overflow on each; the tenant has.
	tell(t, story{"node a 9223372036854775807; tenant t 9223372036854775807; tenant u 9223372036854775807; submit j t 9223372036854775807: a; submit k u 1: Room; submit k u 9223372036854775807: Room; submit k u: a",
		"..u=9223372036854775807,0,0<0,0,0 | j:t@a=9223372036854775807,0,0/0 k:u@a=0,0,0/0"})
}

// P11.1: of several errors of CmdSubmit the first one is told.
func TestSubmitErrorsInOrder(t *testing.T) {
	p := newPlay(t, "errors in order")
	p.run("node a 4; tenant t 9223372036854775806; tenant u 1; submit j t 2: a")
	p.run("submit J v 9: Twice; submit j t 9223372036854775807: Twice; submit j u 9: Twice")
	p.run("submit k v 9223372036854775807: None; submit k v 9: None; submit k v: None")
	p.run("submit k t 9223372036854775807: Over; submit k t 9223372036854775805: Quota; submit k t 9223372036854775804: Room")
	p.run("submit k u 2: Quota; submit k u 9: Quota; drain a 1; submit k u 2: Quota; submit k u 1: Room; submit k v 1: None; submit j u 1: Twice")
	for i := len(p.a.jobs); i < mostJobs; i++ {
		p.a.jobs = append(p.a.jobs, api.Job{Name: fmt.Sprint("n", i), Tenant: "u", Node: "a"})
	}
	full, e := sched.Load(p.a.save())
	if e != api.OK {
		t.Fatal(e)
	}
	p.s = full
	p.run("submit J u 9: Twice; submit j v: Twice; submit k v: Many; submit k u 2: Many; submit k t 9223372036854775807: Many; submit k u 1: Many; submit k u: Many")
	p.run("kill n7: a; submit k v: None; submit k t 9223372036854775807: Over; submit k u 2: Quota; submit k u: Room; drain a 0; submit k u: a; submit l u: Many")
}

// P11.1: the node with the least score is chosen, and of equal ones the first by key, however it is spelt.
func TestChoice(t *testing.T) {
	tell(t,
		story{"node a 4; node b 8; tenant t 99; submit i t 1: b; submit j t 1: a; submit k t 1: b; submit l t 1: b; submit m t 1: a; submit n t 1: b", "a=4,0,0<2,0,0 b=8,0,0<4,0,0 | t=99,0,0<6,0,0 | i:t@b=1,0,0/0 j:t@a=1,0,0/0 k:t@b=1,0,0/0 l:t@b=1,0,0/0 m:t@a=1,0,0/0 n:t@b=1,0,0/0"},
		story{"node B 4; node a 4; tenant t 9; submit i t 1: a; submit j t 1: B; submit k t 1: a", "..| i:t@a=1,0,0/0 j:t@B=1,0,0/0 k:t@a=1,0,0/0"},
		story{"node _ 4; node Z 4; node a 4; tenant t 9; submit i t 1: _; submit j t 1: a; submit k t 1: Z", "_=4,0,0<1,0,0 a=4,0,0<1,0,0 Z=4,0,0<1,0,0 | t=9,0,0<3,0,0 | i:t@_=1,0,0/0 j:t@a=1,0,0/0 k:t@Z=1,0,0/0"},
		story{"node N10 4; node n2 4; node N1 4; node n 4; tenant t 9; submit i t 1: n; submit j t 1: N1; submit k t 1: N10; submit l t 1: n2", "n=4,0,0<1,0,0 N1=4,0,0<1,0,0 N10=4,0,0<1,0,0 n2=4,0,0<1,0,0 | t=9,0,0<4,0,0 | i:t@n=1,0,0/0 j:t@N1=1,0,0/0 k:t@N10=1,0,0/0 l:t@n2=1,0,0/0"},
		// By runes: U+FF5E is below U+1F600; of Ä and ä, which are two names, Ä is the lower.
		story{"node 😀 4; node ～ 4; node ä 4; node Ä 4; tenant t 9; submit i t 1: Ä; submit j t 1: ä; submit k t 1: ～; submit l t 1: 😀", "Ä=4,0,0<1,0,0 ä=4,0,0<1,0,0 ～=4,0,0<1,0,0 😀=4,0,0<1,0,0 | t=9,0,0<4,0,0 | i:t@Ä=1,0,0/0 j:t@ä=1,0,0/0 k:t@～=1,0,0/0 l:t@😀=1,0,0/0"},
		// The fullest resource counts, in thousandths that are rounded down.
		story{"node a 10 10; node b 10 10; tenant t 99 99; submit i t 5 1: a; submit j t 1 6: b; submit k t 1 1: a; submit l t 1 2: a; submit m t 1 1: b", ".."},
		story{"node b 1000; node a 1001; tenant t 99; submit i t: a; submit j t 1: a; submit k t 1: a; submit l t 1: b; submit m t: a", ".."},
	)
}

// P11.1: CmdKill.
func TestKill(t *testing.T) {
	tell(t,
		story{"kill j: None; node j 4; tenant j 4; kill j: None; submit j j 1: j; kill J: j; kill j: None", "j=4,0,0<0,0,0 | j=4,0,0<0,0,0 |"},
		story{"node Aa 9 9; tenant t 9 9; submit i t 1 2: Aa; submit j T 3 4: Aa; kill I: Aa", "Aa=9,9,0<3,4,0 | t=9,9,0<3,4,0 | j:t@Aa=3,4,0/0"},
		story{"node a 9; node b 9; tenant t 9; tenant u 9; submit i t 1: a; submit j u 2: b; submit k t 4: a; kill j: b; kill i: a", "a=9,0,0<4,0,0 b=9,0,0<0,0,0 | t=9,0,0<4,0,0 u=9,0,0<0,0,0 | k:t@a=4,0,0/0"},
		story{"node a 9; tenant t 9; submit i t 9: a; report i a 2; submit j t 1: Quota; kill i: a; submit j t 9: a", "..| j:t@a=9,0,0/0"},
	)
}

// P11.1: CmdReport: only a job on the node that is named gets the status, which is any but JobPlaced.
func TestReport(t *testing.T) {
	tell(t,
		story{"node a 9; node b 9; tenant t 9; submit i t 1: a; submit j t 2: b; report i a 1; report j b 2", "..| i:t@a=1,0,0/1 j:t@b=2,0,0/2"},
		story{"node a 9; tenant t 9; submit i t 1: a; report I A 1; job i: a 1,0,0/1; report i A 1; report i a 2; job i: a 1,0,0/2; report i a 1", "..| i:t@a=1,0,0/1"},
		story{"node a 9; node b 9; tenant t 9; submit i t 1: a; report i b 1: None; report i t 1: None; report i c 1: None; report j a 1: None; report a i 1: None; report t a 1: None", "..| i:t@a=1,0,0/0"},
		story{"node a 9; tenant t 9; submit i t 1: a; report i a 2; report i a 0: Form; report i a 3: Form; report i a -1: Form", "..| i:t@a=1,0,0/2"},
		story{"node a 9; node b 9; tenant t 9; submit i t 1: a; report i a 1; kill i: a; report i a 2: None; drain a 1; submit i t 1: b; report i a 2: None; report i B 1", "..| i:t@b=1,0,0/1"},
		// What has failed is used all the same.
		story{"node a 9; tenant t 9; submit i t 5: a; report i a 2; submit j t 5: Quota; used a: 5,0,0/1; spent t: 5,0,0/1; drop a: Used", "a=9,0,0<5,0,0 | t=9,0,0<5,0,0 | i:t@a=5,0,0/2"},
	)
}

// P11.1: what has been created keeps its spelling, whatever it is called later, in rows and in replies.
func TestSpelling(t *testing.T) {
	tell(t,
		story{"node nOdE 9; tenant tEnAnT 9; submit jOb TENANT 1: nOdE; node NODE 8; tenant Tenant 7; drain node 1; report JOB Node 1; job job: nOdE 1,0,0/1; used NODE: 1,0,0/1; spent tenant: 1,0,0/1",
			"nOdE=8,0,0<1,0,0! | tEnAnT=7,0,0<1,0,0 | jOb:tEnAnT@nOdE=1,0,0/1"},
		story{"node A 9; node b 9; tenant t 9; drain B 1; submit i T 1: A; kill I: A; drop a; node a 9; submit I T 1: a; kill i: a", "a=9,0,0<0,0,0 b=9,0,0<0,0,0! | t=9,0,0<0,0,0 |"},
		story{"node Äa 9; node äA 9; tenant É 9; submit i é 1: None; submit i É 1: Äa; submit j É 1: äA; used äa: 1,0,0/1; used ÄA: 1,0,0/1; report i äa 1: None; report i ÄA 1", "Äa=9,0,0<1,0,0 äA=9,0,0<1,0,0 | É=9,0,0<2,0,0 | i:É@Äa=1,0,0/1 j:É@äA=1,0,0/0"},
		// Only A to Z count: U+212A is no K, and of @ [ ` { nothing is another's case.
		story{"node k 9; node \u212a 8; node @ 7; node ` 6; node [ 5; node { 4", "@=7,0,0<0,0,0 [=5,0,0<0,0,0 `=6,0,0<0,0,0 k=9,0,0<0,0,0 {=4,0,0<0,0,0 \u212a=8,0,0<0,0,0 | |"},
	)
	all := newPlay(t, "all letters")
	for c := 'A'; c <= 'Z'; c++ {
		up, down := string(c), string(c+'a'-'A')
		for i, x := range [][2]string{{up, down}, {down, up}} {
			p := newPlay(t, up+down)
			p.run(strings.NewReplacer("X", x[0], "Y", x[1]).Replace("node X 4; tenant X 4; submit X Y 1: X; submit Y X: Twice; node Y 5; tenant Y 5; used Y: 1,0,0/1; spent Y: 1,0,0/1; job Y: X 1,0,0/0; report Y Y 1; kill Y: X; drain Y 1; drop Y; drop X: None"))
			if i == 0 {
				all.run("node " + up)
			}
		}
	}
	if n := len(all.s.Nodes()); n != 26 {
		t.Errorf("%d letters", n)
	}
}

// P11.1: the rows are by name, whatever the order in which things came.
func TestOrder(t *testing.T) {
	names := []string{"!", "0", "_", "`", "A", "a-", "AA", "ab", "B", "b0", "B00", "n0", "N10", "n2", strings.Repeat("z", 24), "~", "É", "é", "中", "\uFF5E", "😀"}
	for turn := range names {
		p := newPlay(t, fmt.Sprint("order ", turn))
		for i := range names {
			s := names[(i*8+turn)%len(names)]
			p.do(api.Cmd{Op: api.CmdNode, Name: s, V: api.Vec{int64(i)}})
			p.do(api.Cmd{Op: api.CmdTenant, Name: s, V: api.Vec{int64(i)}})
			p.do(api.Cmd{Op: api.CmdSubmit, Name: s, Of: s})
		}
		nodes, tenants, jobs := p.s.Nodes(), p.s.Tenants(), p.s.Jobs()
		for i, s := range names {
			if nodes[i].Name != s || tenants[i].Name != s || jobs[i].Name != s || jobs[i].Tenant != s {
				t.Fatalf("turn %d, %d: %v, %v, %v", turn, i, nodes[i], tenants[i], jobs[i])
			}
		}
	}
}

// notCommands are commands that aren't valid, each but for one thing.
func notCommands() []api.Cmd {
	var l []api.Cmd
	for _, line := range []string{"node a 4", "drain a 1", "drop a", "tenant t 4", "submit j t 1", "kill j", "report j a 1", "job j", "used a", "spent t"} {
		c := command(line)
		for _, s := range []string{"", "-", "-a", "a b", "a\x00", "\x7f", "\u00a0", "\u2028", "\ufffd", "\xff", strings.Repeat("a", 25), strings.Repeat("a", 1<<16)} {
			d := c
			d.Name = s
			l = append(l, d)
			d = c
			if d.Of = s; s != "" || c.Of != "" {
				l = append(l, d)
			}
		}
		for _, n := range []int64{-1, math.MinInt64} {
			for i := range api.Resources {
				d := c
				d.V[i] = n
				l = append(l, d)
			}
		}
		for _, n := range []int64{-1, 3, top, math.MinInt64} {
			d := c
			d.N = n
			l = append(l, d)
		}
		for _, op := range []int{0, -1, 11, 12, 255, 256, 256 + c.Op, math.MinInt, math.MaxInt} {
			d := c
			d.Op = op
			l = append(l, d)
		}
		switch c.Op {
		case api.CmdNode, api.CmdTenant, api.CmdSubmit:
		default:
			d := c
			d.V = api.Vec{0, 0, 1}
			l = append(l, d)
		}
	}
	l = append(l, api.Cmd{}, command("drain a 2"), command("report j a 0"))
	for _, line := range []string{"node a 4", "drop a", "kill j", "used a", "submit j t"} {
		c := command(line)
		c.N = 1
		l = append(l, c)
	}
	return l
}

// P11.1, P11.2: a command that isn't valid is ErrForm, ahead of all other errors, and changes nothing.
func TestNotCommands(t *testing.T) {
	p := newPlay(t, "not commands")
	for _, state := range []string{"job j: None", "node a 9; node b 9; tenant t 9; submit j t 2: a; submit k t 2: b; report k b 1; drain b 1"} {
		p.run(state)
		before := p.s.Save()
		for _, c := range notCommands() {
			if r := p.s.Do(c); r != (api.Reply{E: api.ErrForm}) {
				t.Errorf("%.200s: Do: %v", told(c), r)
			}
			if r := p.s.Ask(c); r != (api.Reply{E: api.ErrForm}) {
				t.Errorf("%.200s: Ask: %v", told(c), r)
			}
			if p.s.Save() != before {
				t.Fatalf("%.200s: something has changed", told(c))
			}
		}
		check(t, p.what, p.s, p.a)
	}
}
