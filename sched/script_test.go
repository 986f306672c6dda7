package sched_test

import (
	"fmt"
	"slices"
	"strconv"
	"strings"
	"testing"

	"provost/api"
	"provost/sched"
)

// play is a Sched with its second account, which are given the same commands.
type play struct {
	t    *testing.T
	what string
	s    *sched.Sched
	a    *account
}

func newPlay(t *testing.T, what string) *play {
	return &play{t: t, what: what, s: sched.New(), a: &account{}}
}

// do does a command on both, and on what is loaded of what was saved ahead of it, and checks that all come to the same.
func (p *play) do(c api.Cmd) api.Reply {
	p.t.Helper()
	want := p.a.do(c)
	before := p.s.Save()
	loaded, e := sched.Load(before)
	if e != api.OK || loaded.Save() != before {
		p.t.Fatalf("%s: at %s: loaded: %d", p.what, told(c), e)
	}
	for _, s := range []*sched.Sched{p.s, loaded} {
		if got := s.Do(c); got != want {
			p.t.Fatalf("%s: at %s: %s, not %s", p.what, told(c), show(got, c), show(want, c))
		}
		check(p.t, p.what+": behind "+told(c), s, p.a)
	}
	if want.E != api.OK && p.s.Save() != before {
		p.t.Fatalf("%s: %s fails, but changes something", p.what, told(c))
	}
	return want
}

// check checks all that is told of a Sched.
func check(t *testing.T, what string, s *sched.Sched, a *account) {
	t.Helper()
	nodes, tenants, jobs := a.rows()
	if got := s.Nodes(); !slices.Equal(got, nodes) {
		t.Fatalf("%s: nodes %v, not %v", what, got, nodes)
	}
	if got := s.Tenants(); !slices.Equal(got, tenants) {
		t.Fatalf("%s: tenants %v, not %v", what, got, tenants)
	}
	if got := s.Jobs(); !slices.Equal(got, jobs) {
		t.Fatalf("%s: jobs %v, not %v", what, got, jobs)
	}
	if got, want := s.Save(), a.save(); got != want {
		t.Fatalf("%s: saved %x, not %x", what, got, want)
	}
}

// ops are the words that scripts have for commands.
func ops() []string {
	return []string{"", "node", "drain", "drop", "tenant", "submit", "kill", "report", "job", "used", "spent"}
}

// command reads a command: its word, its names, and then its numbers. What isn't told is 0.
func command(line string) api.Cmd {
	w := strings.Fields(line)
	c := api.Cmd{Op: slices.Index(ops(), w[0]), Name: w[1]}
	w = w[2:]
	if c.Op == api.CmdSubmit || c.Op == api.CmdReport {
		c.Of, w = w[0], w[1:]
	}
	for i := range w {
		n, err := strconv.ParseInt(w[i], 10, 64)
		if err != nil || c.Op < 1 {
			panic("no command: " + line)
		}
		if c.Op == api.CmdDrain || c.Op == api.CmdReport {
			c.N = n
		} else {
			c.V[i] = n
		}
	}
	return c
}

func told(c api.Cmd) string { return fmt.Sprintf("%+v", c) }

// word is the word that scripts have for an error.
func word(e api.Errno) string {
	switch e {
	case api.ErrMany:
		return "Many"
	case api.ErrForm:
		return "Form"
	case api.ErrOver:
		return "Over"
	case api.ErrNone:
		return "None"
	case api.ErrTwice:
		return "Twice"
	case api.ErrRoom:
		return "Room"
	case api.ErrQuota:
		return "Quota"
	case api.ErrUsed:
		return "Used"
	}
	return "error " + strconv.Itoa(int(e))
}

// show tells a reply to c: its error, its text and, for a query or where they aren't zero, its numbers.
func show(r api.Reply, c api.Cmd) string {
	var words []string
	if r.E != api.OK {
		words = append(words, word(r.E))
	}
	if r.S != "" {
		words = append(words, r.S)
	}
	if r.V != (api.Vec{}) || r.N != 0 || r.E == api.OK && c.Op >= api.CmdJob {
		words = append(words, fmt.Sprintf("%d,%d,%d/%d", r.V[0], r.V[1], r.V[2], r.N))
	}
	return strings.Join(words, " ")
}

// state tells all of a Sched: a node is name=capacity<used, with ! behind it if it is drained; a tenant is likewise; a
// job is name:tenant@node=demand/status.
func state(s *sched.Sched) string {
	var words []string
	v := func(v api.Vec) string { return fmt.Sprintf("%d,%d,%d", v[0], v[1], v[2]) }
	for _, n := range s.Nodes() {
		drained := ""
		if n.Drain {
			drained = "!"
		}
		words = append(words, n.Name+"="+v(n.Cap)+"<"+v(n.Used)+drained)
	}
	words = append(words, "|")
	for _, t := range s.Tenants() {
		words = append(words, t.Name+"="+v(t.Quota)+"<"+v(t.Used))
	}
	words = append(words, "|")
	for _, j := range s.Jobs() {
		words = append(words, j.Name+":"+j.Tenant+"@"+j.Node+"="+v(j.V)+"/"+strconv.FormatInt(j.Status, 10))
	}
	return strings.Join(words, " ")
}

// run plays a script: its commands are parted by semicolons, and what a command comes to follows it and a colon.
func (p *play) run(text string) {
	p.t.Helper()
	for _, line := range strings.Split(text, ";") {
		line, want, _ := strings.Cut(line, ":")
		c := command(line)
		if got := show(p.do(c), c); got != strings.TrimSpace(want) {
			p.t.Fatalf("%s: at %q: %q, not %q", p.what, line, got, want)
		}
	}
}

// story is a script, and the state at last; of a state that begins with ".." only the end is told.
type story struct{ text, want string }

// tell plays stories on new Scheds.
func tell(t *testing.T, stories ...story) {
	t.Helper()
	for _, x := range stories {
		p := newPlay(t, x.text)
		p.run(x.text)
		got := state(p.s)
		if end, part := strings.CutPrefix(x.want, ".."); part && !strings.HasSuffix(got, end) || !part && got != x.want {
			t.Errorf("%s: got %q, want %q", x.text, got, x.want)
		}
	}
}
