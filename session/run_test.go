package session_test

import (
	"fmt"
	"math"
	"math/rand"
	"slices"
	"testing"

	"provost/api"
	"provost/item"
	"provost/session"
)

// dice makes calls by lot, in each of which the session is one of those that there are or have been, or none.
type dice struct {
	*rand.Rand
	calm int // how many times Expire is left out for once that it is called
}

// id is a session's number, mostly one that is there.
func (d dice) id(a *account) int64 {
	l := a.Sessions()
	if len(l) == 0 || d.Intn(8) == 0 {
		return a.next - 3 + int64(d.Intn(6)) - int64(d.Intn(2)*d.Intn(40))
	}
	return l[d.Intn(len(l))]
}

// seq is a sequence number, mostly the last or the next one.
func (d dice) seq(last int64) int64 {
	switch n := d.Intn(12); {
	case n < 5:
		return last + 1
	case n < 9:
		return last
	case n < 11:
		return last - 2 + int64(d.Intn(6))
	}
	return int64(d.Uint64()) >> d.Intn(64)
}

// reply is a reply that may be packed, but for one now and then.
func (d dice) reply() api.Reply {
	switch d.Intn(6) {
	case 0:
		return api.Reply{}
	case 1:
		return api.Reply{E: []api.Errno{-1, 256, 255, api.ErrQuota}[d.Intn(4)]}
	case 2:
		return api.Reply{S: fmt.Sprint("node", d.Intn(9)), V: api.Vec{int64(d.Intn(9)), -1, 3}}
	}
	return api.Reply{N: int64(d.Uint64()) >> d.Intn(64)}
}

// call is any call.
func (d dice) call(a *account) call {
	n := d.Intn(30)
	if n == 0 && d.Intn(d.calm) > 0 {
		n = 29
	}
	switch {
	case n == 0:
		return call{word: "expire", id: int64(d.Intn(12) - 2)}
	case n < 4:
		return call{word: "register"}
	case n < 10:
		return call{word: "tick"}
	}
	c := call{word: "done", id: d.id(a), r: d.reply()}
	last := int64(0)
	if r := a.row(c.id); r != nil {
		last = r.seq
	}
	c.seq = d.seq(last)
	if n < 15 {
		c.word, c.r = "check", api.Reply{}
	}
	return c
}

// history is all that was executed: of each session the replies, in the order of their numbers, and whether it has ended.
type history struct {
	replies map[int64][]api.Reply
	gone    map[int64]bool
}

// note notes what a call did, of which it is known what it answered.
func (h *history) note(c call, answer string, s *session.Table) {
	switch {
	case c.word == "done" && answer == "" && c.seq > int64(len(h.replies[c.id])):
		h.replies[c.id] = append(h.replies[c.id], c.r)
	case c.word == "register" && answer != "Many":
		h.replies[slices.Max(s.Sessions())] = nil
	case c.word == "expire":
		for id := range h.replies {
			h.gone[id] = !slices.Contains(s.Sessions(), id)
		}
	}
}

// check checks what P12.5 says of all that was executed.
func (h *history) check(t *testing.T, what string, s *session.Table) {
	t.Helper()
	for id, replies := range h.replies {
		last := int64(len(replies))
		for seq := int64(-1); seq <= last+2; seq++ {
			verdict, due := session.Past, api.Reply{E: api.ErrSeq}
			switch {
			case h.gone[id]:
				verdict, due = session.Gone, api.Reply{E: api.ErrSession}
			case seq == last && seq > 0:
				verdict, due = session.Again, replies[seq-1]
			case seq == last+1:
				verdict, due = session.New, api.Reply{}
			}
			if v, r := s.Check(id, seq); v != verdict || r != due {
				t.Fatalf("%s: %d, %d: %d, %v, not %d, %v", what, id, seq, v, r, verdict, due)
			}
		}
	}
}

// P12.1 to P12.5: long runs of any calls, held against the second account and against all that was executed; in some
// of them the table is saved and loaded between calls, and goes on in the same way.
func TestLongRuns(t *testing.T) {
	seen := map[string]int{}
	for seed := range int64(12) {
		p := newPlay(t, fmt.Sprint("run ", seed))
		d := dice{rand.New(rand.NewSource(seed)), 1 + int(seed%3)*4}
		h := history{map[int64][]api.Reply{}, map[int64]bool{}}
		for range 1200 {
			c := d.call(p.a)
			answer := p.do(c)
			h.note(c, answer, p.s)
			h.check(t, p.what, p.s)
			seen[outcome(c, answer)]++
			if d.Intn(20) == 0 && seed%2 == 0 {
				p.s, _ = session.Load(p.s.Save())
			}
		}
	}
	for _, s := range []string{"tick", "register", "register Many", "expire", "expire 0", "check New", "check Again", "check Gone Session", "check Past Seq", "done", "done Form", "done Seq", "done Session"} {
		if seen[s] < 50 {
			t.Errorf("%s: only %d times", s, seen[s])
		}
	}
}

// outcome is what a call came to, without its numbers.
func outcome(c call, answer string) string {
	switch {
	case c.word == "register" && answer != "Many", c.word == "expire" && answer != "0", answer == "":
		return c.word
	case len(answer) > 5 && answer[:5] == "Again":
		return c.word + " Again"
	}
	return c.word + " " + answer
}

// P12.1 to P12.5: all scripts of so many calls out of a few, held against the second account.
func TestAllScripts(t *testing.T) {
	var l []call
	for _, line := range []string{"tick", "register", "expire 1", "expire 2", "done 1 1 5", "done 1 2 6", "done 2 1 7", "check 1 1", "check 1 2", "check 2 1"} {
		l = append(l, callOf(line))
	}
	for script := range 1000000 {
		s, a := session.Empty(), newAccount()
		for rest := script + 1000000; rest > 1; rest /= 10 {
			c := l[rest%10]
			if got, want := c.on(s), c.on(a); got != want {
				t.Fatalf("script %d, %v: %s, not %s", script, c, got, want)
			}
		}
		if script%100 == 0 {
			same(t, fmt.Sprint("script ", script), s, a)
		}
	}
}

// P12.4: tables that calls came to, changed in one place or another, are loaded just where the chapter's list has them,
// and go on as the second account has it.
func TestLoadChanged(t *testing.T) {
	d := dice{rand.New(rand.NewSource(12)), 4}
	count := 0
	for round := range 150 {
		p := newPlay(t, fmt.Sprint("changed ", round))
		for range 60 {
			c := d.call(p.a)
			c.on(p.s)
			c.on(p.a)
		}
		for range 60 {
			i := copied(p.a.item())
			for range 1 + d.Intn(2) {
				change(d, &i)
			}
			text := encoded(i)
			if !checkLoad(t, p.what, text) || text == p.a.Save() {
				continue
			}
			count++
			q := loadPlay(t, p.what, text)
			for range 10 {
				q.do(d.call(q.a))
			}
		}
	}
	if count < 1000 || count > 8000 {
		t.Errorf("of 9000 %d are loaded: too few or too many", count)
	}
}

// change changes one part of an item that has been saved.
func change(d dice, i *api.Item) {
	some := []int64{1, -1, 2, -2, 10, end, -end, math.MinInt64}
	rows := &i.L[2]
	if len(rows.L) == 0 || d.Intn(8) == 0 {
		i.L[d.Intn(2)].N += some[d.Intn(len(some))]
		return
	}
	row, other := &rows.L[d.Intn(len(rows.L))], copied(rows.L[d.Intn(len(rows.L))])
	switch d.Intn(6) {
	case 0:
		*row = other
	case 1:
		k := d.Intn(len(rows.L))
		rows.L = slices.Delete(rows.L, k, k+1)
	case 2:
		k := d.Intn(len(row.L))
		row.L[k] = other.L[k]
	case 3:
		k := d.Intn(len(rows.L))
		rows.L = slices.Insert(rows.L, k, other)
	case 4:
		row.L[3] = item.Text(packed(api.Reply{N: d.Int63()}))
	default:
		row.L[d.Intn(3)].N += some[d.Intn(len(some))]
	}
}

// R4: the same calls, in the same order, answer the same.
func TestAgain(t *testing.T) {
	var first []string
	for turn := range 3 {
		d, s, a := dice{rand.New(rand.NewSource(5)), 4}, session.Empty(), newAccount()
		for step := range 1000 {
			c := d.call(a)
			c.on(a)
			told := fmt.Sprint(c.on(s), s.Sessions(), s.Save())
			if turn == 0 {
				first = append(first, told)
			} else if told != first[step] {
				t.Fatalf("turn %d, step %d, %v: %q, not %q", turn, step, c, told, first[step])
			}
		}
	}
}
