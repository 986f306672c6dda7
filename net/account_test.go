package net

import (
	"math"
	"slices"
	"strconv"
	"testing"

	"provost/api"
)

// account is a second account of a net: all that was ever put into it, in order, and what of it is gone.
type account struct {
	put   []api.Letter
	gone  []bool
	there int
	split int
}

// find returns where message k is among all, or -1.
func (a *account) find(k int) int {
	for i := range a.put {
		if a.gone[i] {
			continue
		}
		if k == 0 {
			return i
		}
		k--
	}
	return -1
}

func (a *account) add(l api.Letter) api.Errno {
	if a.there == api.MaxNet {
		return api.ErrFull
	}
	a.put, a.gone = append(a.put, l), append(a.gone, false)
	a.there++
	return api.OK
}

func (a *account) lose(i int) {
	a.gone[i] = true
	a.there--
}

func (a *account) way() []api.Letter {
	var l []api.Letter
	for i := range a.put {
		if !a.gone[i] {
			l = append(l, a.put[i])
		}
	}
	return l
}

// forget drops what is gone, so that a long run stays quick.
func (a *account) forget() {
	a.put = a.way()
	a.gone = make([]bool, len(a.put))
}

// act is a call with its arguments.
type act struct {
	call string
	l    api.Letter
	n    int
}

// do does an act on the account, and returns what it comes to.
func (a *account) do(x act) (api.Letter, api.Errno) {
	none := api.Letter{}
	switch x.call {
	case "send":
		for _, place := range []int{x.l.From, x.l.To} {
			if place < 0 || place > 31 {
				return none, api.ErrArg
			}
		}
		return none, a.add(x.l)
	case "split":
		a.split = x.n
		return none, api.OK
	}
	i := a.find(x.n)
	if i < 0 {
		return none, api.ErrNone
	}
	l := a.put[i]
	if x.call == "copy" {
		return none, a.add(l)
	}
	a.lose(i)
	if x.call == "drop" {
		return none, api.OK
	}
	if bit(a.split, l.From) != bit(a.split, l.To) {
		return none, api.ErrState
	}
	return l, api.OK
}

// do does an act on a net.
func do(n *Net, x act) (api.Letter, api.Errno) {
	switch x.call {
	case "send":
		return api.Letter{}, n.Send(x.l)
	case "copy":
		return api.Letter{}, n.Copy(x.n)
	case "drop":
		return api.Letter{}, n.Drop(x.n)
	case "take":
		return n.Take(x.n)
	}
	n.Split(x.n)
	return api.Letter{}, api.OK
}

// dice tells numbers from 0 on that look drawn by lot but are the same each time.
type dice uint64

func (d *dice) roll(below int) int {
	*d = *d*6364136223846793005 + 1442695040888963407
	return int(uint64(*d) >> 33 % uint64(below))
}

func (d *dice) of(l ...int) int { return l[d.roll(len(l))] }

// place is an endpoint, and now and then none.
func (d *dice) place() int {
	if d.roll(40) == 0 {
		return d.of(-1, api.MaxPlaces, math.MinInt, math.MaxInt)
	}
	return d.of(0, 1, api.MaxPlaces-1, d.roll(api.MaxPlaces))
}

// position is one of so many messages, and now and then none.
func (d *dice) position(count int) int {
	if count == 0 || d.roll(20) == 0 {
		return d.of(-1, count, count+1, math.MinInt, math.MaxInt)
	}
	return d.of(0, count-1, count/2, d.roll(count))
}

// act is any act on a net with so many messages: of ten, so many put one.
func (d *dice) act(count, puts int) act {
	if d.roll(30) == 0 {
		return act{call: "split", n: d.of(0, -1, 1, math.MinInt, math.MaxInt, d.roll(1<<31), -d.roll(1<<31), d.roll(1<<31)<<d.roll(32))}
	}
	if d.roll(10) >= puts {
		return act{call: []string{"take", "take", "drop"}[d.roll(3)], n: d.position(count)}
	}
	if d.roll(3) == 0 {
		return act{call: "copy", n: d.position(count)}
	}
	// The bodies are few, so that there are messages that are alike.
	return act{call: "send", l: api.Letter{From: d.place(), To: d.place(), Body: "b" + strconv.Itoa(d.roll(5))}}
}

// P8.1 to P8.3: long runs that fill a net and empty it again, each call held against the second account, and against
// another net with the same calls (R4).
func TestLongRuns(t *testing.T) {
	for seed := range 6 {
		d := dice(seed)
		n, other, a := New(), New(), &account{}
		wasFull, wasEmpty := false, false
		for step := range 9000 {
			// Nine of ten acts put a message, later on one of ten, and then half of them.
			x := d.act(a.there, []int{9, 1, 5}[step/1000%3])
			want, wantE := a.do(x)
			for _, m := range []*Net{n, other} {
				if got, e := do(m, x); got != want || e != wantE {
					t.Fatalf("%d, step %d, %v: got %v, %d, want %v, %d", seed, step, x, got, e, want, wantE)
				}
				if got := m.Way(); !slices.Equal(got, a.way()) {
					t.Fatalf("%d, step %d, %v: got %d messages %v, want %d messages %v", seed, step, x, len(got), got, a.there, a.way())
				}
			}
			wasFull = wasFull || wantE == api.ErrFull
			wasEmpty = wasEmpty || wasFull && a.there == 0
			if step%100 == 0 {
				a.forget()
			}
		}
		if !wasFull || !wasEmpty {
			t.Errorf("%d: the run doesn't go far enough: full %t, empty %t", seed, wasFull, wasEmpty)
		}
	}
}

// P8.3: every message that is taken was sent, and it is taken at most as often as it was sent and copied.
func TestConsequences(t *testing.T) {
	for seed := range 20 {
		d := dice(1000 + seed)
		n, sent, taken := New(), map[api.Letter]int{}, map[api.Letter]int{}
		for step := range 5000 {
			way := n.Way()
			x := d.act(len(way), []int{9, 2}[step/700%2])
			got, e := do(n, x)
			switch {
			case e != api.OK:
				if got != (api.Letter{}) {
					t.Fatalf("%d, step %d, %v: %d and %v", seed, step, x, e, got)
				}
			case x.call == "send":
				sent[x.l]++
			case x.call == "copy":
				sent[way[x.n]]++
			case x.call == "take":
				taken[got]++
				if taken[got] > sent[got] {
					t.Fatalf("%d, step %d: %v is taken %d times, sent and copied %d times", seed, step, got, taken[got], sent[got])
				}
			}
			if len(way) > api.MaxNet {
				t.Fatalf("%d, step %d: %d in transit", seed, step, len(way))
			}
		}
		if len(taken) < 100 {
			t.Errorf("%d: only %d messages are taken", seed, len(taken))
		}
	}
}

// P8.1, P8.2: all scripts of five calls out of a few, held against the second account.
func TestAllScripts(t *testing.T) {
	acts := []act{
		{call: "send", l: api.Letter{From: 0, To: 1, Body: "a"}}, {call: "send", l: api.Letter{From: 1, To: 1, Body: "b"}},
		{call: "copy", n: 0}, {call: "copy", n: 1}, {call: "take", n: 0}, {call: "take", n: 1}, {call: "drop", n: 0}, {call: "drop", n: 1},
		{call: "split", n: 1}, {call: "split", n: 0},
	}
	for script := range 100000 {
		n, a := New(), &account{}
		for rest := script + 100000; rest > 1; rest /= 10 {
			x := acts[rest%10]
			want, wantE := a.do(x)
			if got, e := do(n, x); got != want || e != wantE {
				t.Fatalf("%d, %v: got %v, %d, want %v, %d", script, x, got, e, want, wantE)
			}
		}
		if got := n.Way(); !slices.Equal(got, a.way()) {
			t.Fatalf("%d: got %v, want %v", script, got, a.way())
		}
	}
}
