package session_test

import (
	"fmt"
	"math"
	"slices"
	"strings"
	"testing"

	"provost/api"
	"provost/session"
)

// The chapter's examples.
func TestExamples(t *testing.T) {
	newPlay(t, "first").run("register: 1; check 1 1: New; done 1 1 5; check 1 1: Again 5; check 1 2: New; check 1 3: Past Seq")
	newPlay(t, "second").run("register: 1; tick; tick; expire 2: 1; check 1 1: Gone Session")
}

// The verdicts' numbers are the document's.
func TestVerdicts(t *testing.T) {
	if session.New != 1 || session.Again != 2 || session.Gone != 3 || session.Past != 4 {
		t.Error(session.New, session.Again, session.Gone, session.Past)
	}
}

// P12.1: a new table has no sessions, and begins with number 1.
func TestEmpty(t *testing.T) {
	s := session.Empty()
	if s == nil {
		t.Fatal("nil")
	}
	same(t, "empty", s, newAccount())
	if n := s.Expire(0); n != 0 {
		t.Error(n)
	}
	if s == session.Empty() {
		t.Error("twice the same")
	}
	newPlay(t, "empty").run("check 1 1: Gone Session; check 0 0: Gone Session; check 0 1: Gone Session; done 1 1 5: Session; expire 0: 0; register: 1")
}

// P12.1: numbers go on, whichever sessions have ended, and sessions are told in their order.
func TestRegister(t *testing.T) {
	p := newPlay(t, "register")
	p.run("register: 1; tick; register: 2; tick; register: 3; done 1 1 5; expire 1: 1; register: 4; expire 0: 3; register: 5")
	if l := p.s.Sessions(); !slices.Equal(l, []int64{5}) {
		t.Error(l)
	}
}

// P12.1: as many sessions as there may be, and no more; what has ended makes room.
func TestMostSessions(t *testing.T) {
	p := newPlay(t, "most")
	for n := range mostSessions {
		p.run(fmt.Sprintf("register: %d; tick", n+1))
	}
	p.run("register: Many; register: Many; done 7 1 5; tick; expire 32: 2; register: 33; register: 34; register: Many; check 33 1: New; check 32 1: New")
	p.run("expire 0: 32; register: 35")
}

// P12.1: no number is above MaxIndex, whether or not there are sessions.
func TestLastNumber(t *testing.T) {
	a := &account{clock: 5, next: end - 1}
	loadPlay(t, "last", a.Save()).run(fmt.Sprintf("register: %d; register: %d; register: Many; check %d 1: New; expire 0: 2; register: Many; register: Many", end-1, end, end))
	a.next = end + 1
	loadPlay(t, "behind it", a.Save()).run("register: Many; tick; expire 0: 0; register: Many")
}

// P12.1: the clock goes by 1, up to MaxIndex.
func TestTick(t *testing.T) {
	p := newPlay(t, "clock")
	for n := range int64(20) {
		p.run("tick")
		if a, _ := loadable(p.s.Save()); a == nil || a.clock != n+1 {
			t.Fatal(n, a)
		}
	}
	a := &account{clock: end - 2, next: 2, rows: []row{{id: 1}}}
	p = loadPlay(t, "end", a.Save())
	p.run("tick; tick; tick; register: 2; tick; expire 1: 1; check 2 1: New; tick; expire 1: 0; done 2 1; check 2 1: Again")
	if a, _ := loadable(p.s.Save()); a == nil || a.clock != end {
		t.Error(a)
	}
}

// numbers are sequence numbers around s, and others.
func numbers(s int64) []int64 {
	l := []int64{0, 1, 2, 3, -1, -2, 255, 256, 1 << 32, end - 1, end, end + 1, end + 2, math.MaxInt64 - 1, math.MaxInt64, math.MinInt64, math.MinInt64 + 1}
	for n := s - 4; n <= s+4; n++ {
		l = append(l, n, -n, n+1<<32, n-1<<32)
	}
	return l
}

// P12.2: the verdicts around the last executed number, wherever that is; Check changes nothing.
func TestCheck(t *testing.T) {
	for _, s := range []int64{0, 1, 2, 3, 100, 255, 256, 1<<32 - 1, 1 << 32, end - 2, end - 1, end} {
		r := api.Reply{}
		if s > 0 {
			r = api.Reply{E: api.ErrRoom, S: "x", V: api.Vec{1, -2, 3}, N: -7}
		}
		a := &account{clock: 9, next: 8, rows: []row{{id: 3, seq: 5}, {id: 6, seq: s, reply: r, used: 4}, {id: 7, seq: 6}}}
		p := loadPlay(t, fmt.Sprint("last ", s), a.Save())
		for _, seq := range numbers(s) {
			verdict, due := 4, api.Reply{E: api.ErrSeq}
			if seq > 0 && seq == s {
				verdict, due = 2, r
			}
			if seq > 0 && seq <= end && seq-s == 1 {
				verdict, due = 1, api.Reply{}
			}
			if v, d := p.s.Check(6, seq); v != verdict || d != due {
				t.Errorf("last %d: %d: %d, %v, not %d, %v", s, seq, v, d, verdict, due)
			}
			p.do(call{word: "check", id: 6, seq: seq})
		}
	}
}

// P12.2: where there is no such session, the verdict is Gone, whatever the number.
func TestCheckGone(t *testing.T) {
	a := &account{clock: 9, next: 9, rows: []row{{id: 3, seq: 5}, {id: 4, seq: 1}, {id: 7, seq: 6}}}
	p := loadPlay(t, "gone", a.Save())
	for _, id := range numbers(5) {
		for _, seq := range numbers(4) {
			if v, r := p.s.Check(id, seq); id != 3 && id != 4 && id != 7 && (v != session.Gone || r != api.Reply{E: api.ErrSession}) {
				t.Errorf("%d, %d: %d, %v", id, seq, v, r)
			}
			p.do(call{word: "check", id: id, seq: seq})
		}
		if id != 3 && id != 4 && id != 7 {
			p.run(fmt.Sprintf("done %d 1 5: Session; done %d 0 -: Session", id, id))
		}
	}
}

// P12.2: each of many sessions is found, with the others beside it.
func TestFindsEach(t *testing.T) {
	for n := range mostSessions + 1 {
		a := &account{clock: 9, next: 200}
		for k := range n {
			a.rows = append(a.rows, row{id: int64(5*k + 2), seq: int64(k + 1), reply: api.Reply{N: int64(k)}})
		}
		p := loadPlay(t, fmt.Sprint(n, " sessions"), a.Save())
		for id := range int64(170) {
			for _, seq := range []int64{id / 5, id/5 + 1, id/5 + 2} {
				verdict, r := p.s.Check(id, seq)
				if wantVerdict, want := a.Check(id, seq); verdict != wantVerdict || r != want {
					t.Errorf("%d of %d, %d: %d, %v", id, n, seq, verdict, r)
				}
			}
		}
		for k := range n {
			p.run(fmt.Sprintf("done %d %d 99; check %d %d: Again 99", 5*k+2, k+2, 5*k+2, k+2))
		}
	}
}

// P12.2: each number once, one behind the other; whatever else is done changes nothing.
func TestDone(t *testing.T) {
	p := newPlay(t, "done")
	p.run("register: 1; register: 2; done 1 0 5: Seq; done 1 2 5: Seq; done 1 -1 5: Seq; done 3 1 5: Session; done 0 1 5: Session")
	p.run("done 1 1 5; done 1 1 6; check 1 1: Again 5; done 1 3 7: Seq; done 1 0 7: Seq; check 1 2: New; check 2 1: New")
	p.run("done 1 2 8; check 1 1: Past Seq; done 1 1 9: Seq; check 1 2: Again 8; check 1 3: New; done 2 1 3; check 2 1: Again 3; check 1 2: Again 8")
}

// P12.2: an error of the session or the number comes ahead of a reply that can't be packed, which is none with New nor
// with Again, and isn't kept.
func TestDoneErrors(t *testing.T) {
	p := newPlay(t, "errors")
	p.run("register: 1; register: 2; tick; done 3 1 -: Session; done 1 0 -: Seq; done 1 2 -: Seq; done 1 1 -: Form; check 1 1: New")
	p.run("done 1 1 5; tick; done 1 1 -: Form; done 1 2 -: Form; check 1 1: Again 5; check 1 2: New; done 1 0 -: Seq; expire 1: 2")
	for _, r := range []api.Reply{{E: -1}, {E: 256}, {E: math.MinInt64}, {E: math.MaxInt64, N: 3}, {S: strings.Repeat("a", 1001)}, {S: strings.Repeat("ä", 501)}, {E: -1, S: strings.Repeat("a", 1001)}} {
		p = newPlay(t, "no reply")
		p.run("register: 1")
		for seq := range int64(3) {
			p.do(call{word: "done", id: 1, seq: seq, r: r})
			p.do(call{word: "done", id: 2, seq: seq, r: r})
		}
		p.run("check 1 1: New; done 1 1 5")
		for seq := range int64(4) {
			p.do(call{word: "done", id: 1, seq: seq, r: r})
		}
		p.run("check 1 1: Again 5; check 1 2: New")
	}
}

// P12.2: any reply that can be packed is kept as it is, the zero reply and errors too.
func TestReplies(t *testing.T) {
	p := newPlay(t, "replies")
	p.run("register: 1; register: 2")
	for k, r := range []api.Reply{
		{}, {E: api.ErrQuota}, {E: 255}, {E: api.ErrSession}, {E: api.ErrSeq}, {S: "node"}, {S: strings.Repeat("a", 1000)}, {S: "\xff\x00"},
		{V: api.Vec{1, 2, 3}}, {V: api.Vec{math.MinInt64, 0, math.MaxInt64}}, {N: math.MinInt64}, {N: math.MaxInt64}, {E: 7, S: "x", V: api.Vec{-1}, N: 2}, {},
	} {
		seq := int64(k + 1)
		p.do(call{word: "done", id: 2, seq: seq, r: r})
		p.do(call{word: "done", id: 2, seq: seq, r: api.Reply{N: 77}})
		if v, got := p.s.Check(2, seq); v != session.Again || got != r {
			t.Errorf("%.200s: %d, %.200s", show(r), v, show(got))
		}
	}
}

// P12.2: with both verdicts the session is used now; with an error, and by Check, it isn't.
func TestUse(t *testing.T) {
	p := newPlay(t, "use")
	p.run("register: 1; tick; done 1 1 5; tick; expire 2: 0; done 1 1 5; tick; expire 2: 0; expire 1: 1")
	for _, line := range []string{"check 1 1: Again 5", "check 1 2: New", "check 1 0: Past Seq", "done 1 0 5: Seq", "done 1 3 5: Seq", "done 1 1 -: Form", "done 1 2 -: Form", "check 2 1: New", "done 2 1 5", "done 9 1 5: Session"} {
		p = newPlay(t, "use by "+line)
		p.run("tick; register: 1; done 1 1 5; register: 2; tick; tick; " + line + "; expire 3: 0")
		ended := "2"
		if line == "done 2 1 5" {
			ended = "1"
		}
		p.run("expire 2: " + ended + "; check 1 1: Gone Session")
	}
}

// P12.3: those end that were idle for so long or longer, and are counted; below 0 is as 0.
func TestExpire(t *testing.T) {
	a := &account{clock: 10, next: 7, rows: []row{{id: 1, used: 10}, {id: 2, used: 3}, {id: 3, used: 9, seq: 4}, {id: 4, used: 0}, {id: 5, used: 3, seq: 1}, {id: 6, used: 8}}}
	for _, c := range []struct {
		idle []int64
		left []int64
	}{
		{[]int64{0, -1, -5, math.MinInt64}, nil},
		{[]int64{1}, []int64{1}},
		{[]int64{2}, []int64{1, 3}},
		{[]int64{3, 4, 6, 7}, []int64{1, 3, 6}},
		{[]int64{8, 9, 10}, []int64{1, 2, 3, 5, 6}},
		{[]int64{11, 12, 1 << 32, end, end + 1, math.MaxInt64}, []int64{1, 2, 3, 4, 5, 6}},
	} {
		for _, idle := range c.idle {
			p := loadPlay(t, fmt.Sprint("idle ", idle), a.Save())
			p.run(fmt.Sprintf("expire %d: %d; expire %d: 0", idle, 6-len(c.left), idle))
			if l := p.s.Sessions(); !slices.Equal(l, c.left) {
				t.Errorf("%d: %d", idle, l)
			}
			p.run("register: 7; check 7 1: New")
		}
	}
}

// P12.3: as long a time as there may be.
func TestLongIdle(t *testing.T) {
	a := &account{clock: end, next: 4, rows: []row{{id: 1}, {id: 2, used: 1}, {id: 3, used: end}}}
	for idle, ended := range map[int64]int{math.MaxInt64: 0, end + 1: 0, end: 1, end - 1: 2, 1: 2, 0: 3, -1: 3, -end: 3, math.MinInt64: 3} {
		loadPlay(t, fmt.Sprint("idle ", idle), a.Save()).run(fmt.Sprintf("expire %d: %d", idle, ended))
	}
}

// R1: no call panics, on no Table either. A nil one has no sessions, and takes none; the zero value is as Empty makes it.
func TestOddTables(t *testing.T) {
	var none *session.Table
	none.Tick()
	if id, e := none.Register(); id != 0 || e != api.ErrMany {
		t.Error(id, e)
	}
	for _, n := range numbers(1) {
		if v, r := none.Check(n, n); v != session.Gone || r != (api.Reply{E: api.ErrSession}) {
			t.Error(n, v, r)
		}
		if e := none.Done(n, n, api.Reply{}); e != api.ErrSession {
			t.Error(n, e)
		}
		if ended := none.Expire(n); ended != 0 {
			t.Error(n, ended)
		}
	}
	same(t, "nil", none, newAccount())
	p := newPlay(t, "zero")
	p.s = &session.Table{}
	same(t, "zero", p.s, p.a)
	p.run("check 1 1: Gone Session; tick; register: 1; done 1 1 5; register: 2; expire 0: 2; register: 3")
}

// R3: what is written into the numbers that are told changes neither the table nor what is told next.
func TestSharesNothing(t *testing.T) {
	p := newPlay(t, "numbers")
	p.run("register: 1; register: 2; register: 3")
	l := p.s.Sessions()
	l[0], l[1], l[2] = 9, 9, 9
	l = append(l[:1], 7, 8)
	same(t, "written into", p.s, p.a)
	kept := p.s.Sessions()
	p.run("tick; done 3 1 5; expire 1: 2; register: 4; register: 5")
	if !slices.Equal(kept, []int64{1, 2, 3}) {
		t.Error(kept)
	}
}

// R5: tables are apart from each other, also one that was loaded of what the other saved.
func TestTwoTables(t *testing.T) {
	p, q := newPlay(t, "one"), newPlay(t, "other")
	p.run("register: 1; tick; done 1 1 5; register: 2")
	same(t, "other", q.s, q.a)
	q.run("register: 1; check 1 1: New; done 1 1 6; check 1 1: Again 6")
	p.run("check 1 1: Again 5")
	r := loadPlay(t, "loaded", p.s.Save())
	p.run("done 1 2 7; expire 1: 0; tick; expire 1: 2; register: 3")
	r.run("check 1 1: Again 5; check 2 1: New; register: 3; done 2 1 8")
	p.run("check 2 1: Gone Session; check 3 1: New")
}
