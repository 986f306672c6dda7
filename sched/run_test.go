package sched_test

import (
	"fmt"
	"math/rand"
	"slices"
	"strconv"
	"strings"
	"testing"

	"provost/api"
	"provost/sched"
)

// dice makes commands by lot, out of so many names, with amounts of some kind, and so many CmdSubmit to each other one.
type dice struct {
	*rand.Rand
	nodes, tenants, jobs int
	amount               func(r *rand.Rand) int64
	submits              int
}

// respelt is a name with some of its letters' cases turned.
func (d dice) respelt(s string) string {
	return strings.Map(func(r rune) rune {
		switch {
		case d.Intn(2) == 0:
		case r >= 'a' && r <= 'z':
			return r - 'a' + 'A'
		case r >= 'A' && r <= 'Z':
			return r - 'A' + 'a'
		}
		return r
	}, s)
}

// name is one of so many, in any spelling. Its order by key is another than that by bytes.
func (d dice) name(of int) string {
	k := d.Intn(of)
	s := []string{"a", "B", "_", "ä", "Zz", "n", "É", "😀"}[k%8]
	if k >= 8 {
		s += strconv.Itoa(k / 8)
	}
	return d.respelt(s)
}

func (d dice) vec() api.Vec {
	var v api.Vec
	for i := range v {
		v[i] = d.amount(d.Rand)
	}
	return v
}

// command is any command, now and then none that is valid.
func (d dice) command() api.Cmd {
	c := api.Cmd{Op: 1 + d.Intn(10)}
	if d.Intn(1+d.submits) > 0 {
		c.Op = api.CmdSubmit
	}
	switch c.Op {
	case api.CmdNode, api.CmdDrain, api.CmdDrop, api.CmdUsed:
		c.Name = d.name(d.nodes)
	case api.CmdTenant, api.CmdSpent:
		c.Name = d.name(d.tenants)
	default:
		c.Name = d.name(d.jobs)
	}
	switch c.Op {
	case api.CmdNode, api.CmdTenant:
		c.V = d.vec()
	case api.CmdSubmit:
		c.Of, c.V = d.name(d.tenants), d.vec()
	case api.CmdDrain:
		c.N = int64(d.Intn(2))
	case api.CmdReport:
		c.Of, c.N = d.name(d.nodes), int64(1+d.Intn(2))
	}
	switch d.Intn(200) {
	case 0:
		c.Name = "-" + c.Name
	case 1:
		c.Of += " "
	case 2:
		c.N = 3
	case 3:
		c.V[d.Intn(api.Resources)] = -1
	case 4:
		c.Op = 11
	}
	return c
}

// few is small more often than not.
func few(r *rand.Rand) int64 {
	if r.Intn(8) == 0 {
		return int64(r.Intn(12))
	}
	return int64(r.Intn(4))
}

// many is of all sizes, often at the end of 64 bits.
func many(r *rand.Rand) int64 {
	switch r.Intn(6) {
	case 0:
		return top - int64(r.Intn(3))
	case 1:
		return top/2 + int64(r.Intn(3))
	}
	return int64(r.Uint64()>>1) >> r.Intn(64)
}

// little is next to nothing, so that many jobs have room.
func little(r *rand.Rand) int64 { return int64(r.Intn(30) / 29) }

// kinds are dices of all kinds.
func kinds(seed int64) []dice {
	r := rand.New(rand.NewSource(seed))
	return []dice{{r, 3, 2, 6, few, 1}, {r, 6, 4, 30, few, 1}, {r, 5, 4, 20, many, 1}, {r, 90, 90, 20, few, 0}, {r, 40, 4, 400, little, 3}}
}

// followed is a Sched whose commands others follow: what is loaded of it again and again, and one that is given all
// names in other spellings.
type followed struct {
	*play
	d                dice
	loaded, respells *sched.Sched
	saved            string
	seen             map[[2]int]int // how often a command came to an error
}

func (f *followed) step(step int) {
	f.t.Helper()
	c := f.d.command()
	want := f.a.do(c)
	what := fmt.Sprint(f.what, ", step ", step, ", ", told(c))
	if got := f.s.Do(c); got != want {
		f.t.Fatalf("%s: %v, not %v", what, got, want)
	}
	if got := f.loaded.Do(c); got != want {
		f.t.Fatalf("%s, loaded: %v, not %v", what, got, want)
	}
	other := c
	other.Name, other.Of = f.d.respelt(c.Name), f.d.respelt(c.Of)
	if got := f.respells.Do(other); got.E != want.E || !same(got.S, want.S) || got.V != want.V || got.N != want.N {
		f.t.Fatalf("%s, respelt: %v, not %v", what, got, want)
	}
	f.seen[[2]int{c.Op, int(want.E)}]++
	if step%20 == 0 || len(f.a.nodes)+len(f.a.jobs) < 20 {
		check(f.t, what, f.s, f.a)
		fits(f.t, what, f.s)
		f.ask(what)
	}
	after := f.s.Save()
	if (want.E != api.OK || c.Op >= api.CmdJob) && after != f.saved {
		f.t.Fatalf("%s: something has changed", what)
	}
	f.saved = after
	if step%10 == 0 {
		if got := f.loaded.Save(); got != after {
			f.t.Fatalf("%s: loaded: %x, not %x", what, got, after)
		}
		if got, want := keyed(f.respells), keyed(f.s); got != want {
			f.t.Fatalf("%s: respelt: %s, not %s", what, got, want)
		}
		f.loaded, _ = sched.Load(after)
	}
}

// keyed tells all of a Sched with the keys of all names.
func keyed(s *sched.Sched) string { return lower(state(s)) }

// ask asks for all that is there, and for something that isn't.
func (f *followed) ask(what string) {
	f.t.Helper()
	var l []api.Cmd
	for _, n := range append(f.a.nodes, api.Node{Name: "none"}) {
		l = append(l, api.Cmd{Op: api.CmdUsed, Name: f.d.respelt(n.Name)})
	}
	for _, n := range append(f.a.tenants, api.Tenant{Name: "none"}) {
		l = append(l, api.Cmd{Op: api.CmdSpent, Name: f.d.respelt(n.Name)})
	}
	for _, n := range append(f.a.jobs, api.Job{Name: "none"}) {
		l = append(l, api.Cmd{Op: api.CmdJob, Name: f.d.respelt(n.Name)})
	}
	for _, c := range l {
		if got, want := f.s.Ask(c), f.a.ask(c); got != want {
			f.t.Fatalf("%s: asked %s: %v, not %v", what, told(c), got, want)
		}
	}
}

// fits checks P11.4 on the rows alone: what is used is the sum of the demands, and fits.
func fits(t *testing.T, what string, s *sched.Sched) {
	t.Helper()
	jobs := account{jobs: s.Jobs()}
	for _, n := range s.Nodes() {
		if used := sum(jobs.on(n.Name)...); !used.within(n.Cap) || used.vec() != n.Used {
			t.Fatalf("%s: %v on %v", what, used, n)
		}
	}
	for _, x := range s.Tenants() {
		if used := sum(jobs.of(x.Name)...); !used.within(x.Quota) || used.vec() != x.Used {
			t.Fatalf("%s: %v of %v", what, used, x)
		}
	}
}

// errorsOf are the errors that the chapter has for a command.
func errorsOf(op int) []api.Errno {
	switch op {
	case api.CmdNode:
		return []api.Errno{api.OK, api.ErrForm, api.ErrMany, api.ErrUsed}
	case api.CmdTenant:
		return []api.Errno{api.OK, api.ErrForm, api.ErrMany, api.ErrQuota}
	case api.CmdDrop:
		return []api.Errno{api.OK, api.ErrForm, api.ErrNone, api.ErrUsed}
	case api.CmdSubmit:
		return []api.Errno{api.OK, api.ErrForm, api.ErrMany, api.ErrNone, api.ErrOver, api.ErrTwice, api.ErrRoom, api.ErrQuota}
	}
	return []api.Errno{api.OK, api.ErrForm, api.ErrNone}
}

// P11.1 to P11.4: long runs of any commands, held against the second account; a Sched that is saved and loaded goes on
// in the same way, and spelling names differently changes nothing but their spelling.
func TestLongRuns(t *testing.T) {
	seen := map[[2]int]int{}
	for seed := range int64(4) {
		for k, d := range kinds(seed) {
			f := &followed{newPlay(t, fmt.Sprintf("run %d of %d", seed, k)), d, sched.New(), sched.New(), sched.New().Save(), seen}
			for step := range 1500 {
				f.step(step)
			}
		}
	}
	for op := 1; op <= 10; op++ {
		for _, e := range errorsOf(op) {
			if n := seen[[2]int{op, int(e)}]; n < 3 {
				t.Errorf("command %d, error %d: only %d times", op, e, n)
			}
		}
	}
	for key := range seen {
		if key[0] <= 10 && !slices.Contains(errorsOf(key[0]), api.Errno(key[1])) {
			t.Errorf("command %d has the error %d", key[0], key[1])
		}
	}
}

// P11.1: all scripts of so many commands out of a few, held against the second account.
func TestAllScripts(t *testing.T) {
	var l []api.Cmd
	for _, line := range []string{"node a 2", "node A 1", "drain a 1", "drop a", "tenant t 2", "tenant T 1", "submit j t 1", "submit k t 2", "kill J", "report j A 2"} {
		l = append(l, command(line))
	}
	for script := range 100000 {
		s, a := sched.New(), &account{}
		for rest := script + 100000; rest > 1; rest /= 10 {
			c := l[rest%10]
			if got, want := s.Do(c), a.do(c); got != want {
				t.Fatalf("script %d, %s: %v, not %v", script, told(c), got, want)
			}
		}
		if got, want := s.Save(), a.save(); got != want {
			t.Fatalf("script %d: %x, not %x", script, got, want)
		}
	}
}

// P11.3: states that commands came to, changed in one place or another, are loaded just where commands could come to
// them, and go on as the second account has it.
func TestLoadChanged(t *testing.T) {
	r := rand.New(rand.NewSource(11))
	loaded, changed := 0, 0
	for round := range 60 {
		d := kinds(int64(round))[round%3]
		p := newPlay(t, fmt.Sprint("changed ", round))
		for range 80 {
			c := d.command()
			p.s.Do(c)
			p.a.do(c)
		}
		for range 60 {
			i := copied(p.a.item())
			for range 1 + r.Intn(2) {
				change(r, &i)
			}
			text := encoded(i)
			if !checkLoad(t, p.what, text) {
				continue
			}
			loaded++
			if text == p.a.save() {
				continue
			}
			changed++
			s, _ := sched.Load(text)
			a, _ := loadable(text)
			for range 20 {
				c := d.command()
				if got, want := s.Do(c), a.do(c); got != want {
					t.Fatalf("%s: %s: %v, not %v", p.what, told(c), got, want)
				}
			}
			check(t, p.what, s, a)
		}
	}
	if changed < 300 || loaded > 3000 {
		t.Errorf("of 3600 %d are loaded, %d of them changed: too few or too many", loaded, changed)
	}
}

// change changes one part of an item that has been saved.
func change(r *rand.Rand, i *api.Item) {
	rows := &i.L[r.Intn(3)]
	if len(rows.L) == 0 {
		return
	}
	row := &rows.L[r.Intn(len(rows.L))]
	other := copied(rows.L[r.Intn(len(rows.L))])
	switch r.Intn(5) {
	case 0:
		*row = other
	case 1:
		k := r.Intn(len(rows.L))
		rows.L = slices.Delete(rows.L, k, k+1)
	case 2:
		k := r.Intn(len(row.L))
		row.L[k] = other.L[k]
	default:
		number := &row.L[r.Intn(len(row.L))]
		if number.Kind == api.List {
			number = &number.L[r.Intn(api.Resources)]
		}
		number.N += []int64{1, -1, 2, 10}[r.Intn(4)]
		if number.Kind == api.Text {
			number.N, number.S = 0, number.S+"y"
		}
	}
}

// R4: the same commands, in the same order, come to the same, whatever order maps are gone through in.
func TestAgain(t *testing.T) {
	for k := range kinds(0) {
		var first []string
		for turn := range 3 {
			d, s := kinds(7)[k], sched.New()
			for step := range 600 {
				c := d.command()
				told := fmt.Sprint(s.Do(c), s.Save())
				if turn == 0 {
					first = append(first, told)
				} else if told != first[step] {
					t.Fatalf("kind %d, turn %d, step %d, %v: %q, not %q", k, turn, step, c, told, first[step])
				}
			}
		}
	}
}
