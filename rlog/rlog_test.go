package rlog_test

import (
	"math"
	"slices"
	"strings"
	"testing"

	"provost/api"
	"provost/rlog"
)

// holds tells whether a log has the base and, behind it, the entries, in all that it answers.
func holds(t *testing.T, what string, g log, index, term int64, l string) {
	t.Helper()
	if got, want := look(g), look(newAccount(index, term, entries(l))); got != want {
		t.Errorf("%s:\ngot  %s\nwant %s", what, got, want)
	}
}

// put is a Put, held against what it must answer.
func put(t *testing.T, g log, prev, term int64, l string, first int64, errno api.Errno) {
	t.Helper()
	if i, e := g.Put(prev, term, entries(l)); i != first || e != errno {
		t.Errorf("Put(%d, %d, [%s]): got %d, %d, want %d, %d", prev, term, l, i, e, first, errno)
	}
}

// The chapter's examples.
func TestExamples(t *testing.T) {
	g := rlog.New(0, 0, entries("1a 1b 1c"))
	put(t, g, 2, 1, "2d", 3, api.OK)
	put(t, g, 2, 1, "2d", 0, api.OK)
	put(t, g, 9, 1, "", 0, api.ErrNone)
	if i, u := g.Last(); i != 3 || u != 2 {
		t.Errorf("Last: %d, %d", i, u)
	}
	if e := g.Cut(2); e != api.OK {
		t.Errorf("Cut: %d", e)
	}
	put(t, g, 1, 7, "9x 2d", 0, api.OK)
	put(t, g, 0, 0, "1a", 0, api.ErrOld)
	holds(t, "after all", g, 2, 1, "2d")
}

// P14.1: the base and the entries of a new log, and which of them can't be.
func TestNew(t *testing.T) {
	most := int64(math.MaxInt64)
	cases := []struct {
		index, term int64
		l           string
		may         bool
	}{
		{0, 0, "", true}, {0, 0, "1a", true}, {5, 2, "3a 3b 4c", true}, {5, 0, "", true}, {0, 5, "", true},
		{0, most, "", true}, {end, 0, "", true}, {end - 1, 3, "3a", true}, {end - 3, 3, "3a 3b 3c", true},
		{1, 9, "3a 2b -1c 0d", true},
		{-1, 0, "", false}, {0, -1, "", false}, {-1, -1, "1a", false}, {-1, 0, "1a 1b 1c", false},
		{math.MinInt64, 0, "", false}, {0, math.MinInt64, "", false},
		{end, 0, "1a", false}, {end - 1, 0, "1a 1b", false}, {end + 1, 0, "", false},
		{most, 0, "", false}, {most, 0, "1a", false}, {most - 1, 0, "1a 1b 1c", false},
	}
	for _, c := range cases {
		g := rlog.New(c.index, c.term, entries(c.l))
		if (g != nil) != c.may {
			t.Errorf("New(%d, %d, [%s]): %v", c.index, c.term, c.l, g != nil)
		} else if c.may {
			holds(t, c.l, g, c.index, c.term, c.l)
		}
	}
	if g := rlog.New(3, 1, []api.Entry{}); look(g) != look(rlog.New(3, 1, nil)) {
		t.Error("no entries aren't as nil")
	}
}

// P14.1: Base and Last with entries and without.
func TestBaseAndLast(t *testing.T) {
	for _, c := range []struct {
		g           *rlog.Log
		index, term int64
		last, u     int64
	}{
		{rlog.New(0, 0, nil), 0, 0, 0, 0},
		{rlog.New(7, 3, nil), 7, 3, 7, 3},
		{rlog.New(7, 3, entries("4a")), 7, 3, 8, 4},
		{rlog.New(0, 0, entries("1a 1b 5c")), 0, 0, 3, 5},
	} {
		if i, u := c.g.Base(); i != c.index || u != c.term {
			t.Errorf("Base: %d, %d", i, u)
		}
		if i, u := c.g.Last(); i != c.last || u != c.u {
			t.Errorf("Last: %d, %d", i, u)
		}
	}
}

// P14.1: the terms of the base and of the entries are known, and no others, also of a log whose terms are 0.
func TestTerm(t *testing.T) {
	g := rlog.New(5, 2, entries("3a 3b 0c"))
	known := map[int64]int64{5: 2, 6: 3, 7: 3, 8: 0}
	for _, i := range []int64{math.MinInt64, -1, 0, 1, 3, 4, 5, 6, 7, 8, 9, 10, 1 << 32, 1<<32 + 6, end, math.MaxInt64} {
		want, has := known[i]
		if u, ok := g.Term(i); u != want || ok != has {
			t.Errorf("Term(%d): %d, %v", i, u, ok)
		}
	}
}

// P14.1: the entries from an index on.
func TestFrom(t *testing.T) {
	g := rlog.New(5, 2, entries("3a 3b 4c 4d"))
	for _, c := range []struct {
		i    int64
		many int
		want string
	}{
		{6, 4, "3a 3b 4c 4d"}, {6, 5, "3a 3b 4c 4d"}, {6, math.MaxInt, "3a 3b 4c 4d"}, {6, 3, "3a 3b 4c"}, {6, 1, "3a"},
		{7, 2, "3b 4c"}, {9, 1, "4d"}, {9, 2, "4d"}, {8, 1 << 32, "4c 4d"},
		{6, 0, ""}, {6, -1, ""}, {6, math.MinInt, ""}, {9, 0, ""},
		{5, 2, ""}, {4, 9, ""}, {0, 9, ""}, {-1, 9, ""}, {math.MinInt64, 9, ""},
		{10, 1, ""}, {11, 9, ""}, {1<<32 + 6, 1, ""}, {end, 9, ""}, {math.MaxInt64, math.MaxInt, ""},
	} {
		l := g.From(c.i, c.many)
		if told(l) != c.want || cap(l) != len(l) {
			t.Errorf("From(%d, %d): %s, with room for %d", c.i, c.many, told(l), cap(l))
		}
	}
}

// P14.1 and the chapter's Ways: the room of what From answers ends with it, however many entries it has.
func TestRoomOfFrom(t *testing.T) {
	g := rlog.New(0, 0, make([]api.Entry, 300))
	for many := range 301 {
		if l := g.From(1, many); len(l) != many || cap(l) != many {
			t.Errorf("%d entries: got %d, with room for %d", many, len(l), cap(l))
		}
	}
}

// P14.2: another log is newer by its term, and with the same term if it is at least as long.
func TestNewer(t *testing.T) {
	logs := []*rlog.Log{rlog.New(0, 0, entries("1a 1b 1c 1d 1e 3f")), rlog.New(6, 3, nil), rlog.New(2, 5, entries("9x 3a 3b 3c"))}
	for _, c := range []struct {
		index, term int64
		want        bool
	}{
		{6, 3, true}, {7, 3, true}, {5, 3, false}, {math.MaxInt64, 3, true}, {math.MinInt64, 3, false},
		{6, 4, true}, {0, 4, true}, {math.MinInt64, 4, true}, {-1, math.MaxInt64, true},
		{6, 2, false}, {99, 2, false}, {math.MaxInt64, 2, false}, {math.MaxInt64, math.MinInt64, false},
	} {
		for _, g := range logs {
			if g.Newer(c.index, c.term) != c.want {
				t.Errorf("Newer(%d, %d): %v", c.index, c.term, !c.want)
			}
		}
	}
	empty := rlog.New(0, 0, nil)
	if !empty.Newer(0, 0) || empty.Newer(-1, 0) || empty.Newer(9, -1) {
		t.Error("of a log without entries")
	}
}

// P14.3: what is stored, on a log with the base 5 of term 2 and the entries 6 to 9.
func TestPut(t *testing.T) {
	for _, c := range []struct {
		what       string
		prev, term int64
		l          string
		first      int64
		after      string
	}{
		{"behind the last", 9, 4, "4x 5y", 10, "3a 3b 4c 4d 4x 5y"},
		{"nothing behind the last", 9, 4, "", 0, "3a 3b 4c 4d"},
		{"nothing behind the base", 5, 2, "", 0, "3a 3b 4c 4d"},
		{"what is there", 5, 2, "3a 3b 4c 4d", 0, "3a 3b 4c 4d"},
		{"the first of what is there", 5, 2, "3a", 0, "3a 3b 4c 4d"},
		{"some of what is there", 6, 3, "3b 4c", 0, "3a 3b 4c 4d"},
		{"other data of the same terms", 5, 2, "3x 3y", 0, "3a 3b 4c 4d"},
		{"what is there, and more", 7, 3, "4x 4y 4z", 10, "3a 3b 4c 4d 4z"},
		{"another term in the midst", 6, 3, "3x 5y 4z", 8, "3a 3b 5y 4z"},
		{"a lower term in the midst", 6, 3, "3x 3y", 8, "3a 3b 3y"},
		{"another term at once", 5, 2, "9x", 6, "9x"},
		{"another term at the last", 8, 4, "5x 5y", 9, "3a 3b 4c 5x 5y"},
		{"another term, and then what was there", 5, 2, "4x 3b 4c 4d", 6, "4x 3b 4c 4d"},
		{"terms 0 and below", 9, 4, "0x -7y", 10, "3a 3b 4c 4d 0x -7y"},
		{"from below the base", 4, 99, "9x 3y 3z", 0, "3a 3b 4c 4d"},
		{"from far below the base", 0, 0, "1p 1q 1r 1s 1t 3u", 0, "3a 3b 4c 4d"},
		{"from below the base, and another term", 3, -1, "1p 1q 4x", 6, "4x"},
		{"from below the base, and more", 4, 0, "2p 3q 3r 4s 4t 4u 4v", 10, "3a 3b 4c 4d 4u 4v"},
	} {
		g := rlog.New(5, 2, entries("3a 3b 4c 4d"))
		put(t, g, c.prev, c.term, c.l, c.first, api.OK)
		holds(t, c.what, g, 5, 2, c.after)
		put(t, g, c.prev, c.term, c.l, 0, api.OK)
		holds(t, c.what+", twice", g, 5, 2, c.after)
	}
}

// P14.3: what isn't stored; of several errors the first one of the promise is answered, and nothing changes.
func TestPutRefused(t *testing.T) {
	low, high := rlog.New(5, 2, entries("3a 3b 4c 4d")), rlog.New(end-3, 2, entries("3a 3b"))
	for _, c := range []struct {
		g          *rlog.Log
		prev, term int64
		l          string
		errno      api.Errno
	}{
		{low, -1, 0, "", api.ErrRange}, {low, -1, 2, "1a 1b 1c 1d 1e 1f 3g", api.ErrRange}, {low, math.MinInt64, 0, "1a", api.ErrRange},
		{low, end, 4, "4x", api.ErrRange}, {low, end - 1, 4, "4x 4y", api.ErrRange}, {low, end + 1, 4, "", api.ErrRange},
		{low, math.MaxInt64, 4, "", api.ErrRange}, {low, math.MaxInt64, 4, "4x", api.ErrRange}, {low, math.MaxInt64 - 1, 4, "4x 4y 4z", api.ErrRange},
		{high, end - 1, 3, "4x 4y", api.ErrRange}, {high, end - 3, 2, "3a 3b 4x 4y", api.ErrRange},
		{low, 4, 2, "", api.ErrOld}, {low, 4, 2, "2x", api.ErrOld}, {low, 0, 0, "", api.ErrOld}, {low, 0, 0, "1a 1b 1c 1d 2e", api.ErrOld},
		{low, 2, 99, "1x 1y 1z", api.ErrOld}, {low, 3, -1, "1x", api.ErrOld}, {high, 5, 2, "3a", api.ErrOld}, {high, end - 4, 0, "2x", api.ErrOld},
		{low, 5, 1, "3a", api.ErrNone}, {low, 5, 3, "", api.ErrNone}, {low, 7, 4, "4c", api.ErrNone}, {low, 9, 3, "4x", api.ErrNone},
		{low, 9, -4, "4x", api.ErrNone}, {low, 10, 4, "", api.ErrNone}, {low, 10, 0, "4x", api.ErrNone}, {low, end - 1, 4, "4x", api.ErrNone},
		{low, end, 0, "", api.ErrNone}, {high, end, 0, "", api.ErrNone}, {high, end - 2, 2, "3b", api.ErrNone},
	} {
		put(t, c.g, c.prev, c.term, c.l, 0, c.errno)
	}
	holds(t, "low", low, 5, 2, "3a 3b 4c 4d")
	holds(t, "high", high, end-3, 2, "3a 3b")
}

// P14.3: up to the greatest index, and no further.
func TestPutAtTheEnd(t *testing.T) {
	g := rlog.New(end-2, 1, nil)
	put(t, g, end-2, 1, "1a 1b 1c", 0, api.ErrRange)
	put(t, g, end-2, 1, "1a 1b", end-1, api.OK)
	put(t, g, end, 1, "", 0, api.OK)
	put(t, g, end, 1, "1c", 0, api.ErrRange)
	put(t, g, end-4, 0, "0x 0y 1a 2b", end, api.OK)
	put(t, g, end-1, 1, "3c", end, api.OK)
	holds(t, "at the end", g, end-2, 1, "1a 3c")
}

// P14.4: the base moves to an index that the log has, and to no other.
func TestCut(t *testing.T) {
	all := strings.Fields("3a 3b 4c 4d")
	terms := []int64{2, 3, 3, 4, 4}
	for _, i := range []int64{5, 6, 7, 8, 9} {
		g := rlog.New(5, 2, entries("3a 3b 4c 4d"))
		if e := g.Cut(i); e != api.OK {
			t.Errorf("Cut(%d): %d", i, e)
		}
		holds(t, "cut", g, i, terms[i-5], strings.Join(all[i-5:], " "))
	}
	g := rlog.New(5, 2, entries("3a 3b 4c 4d"))
	for _, i := range []int64{math.MinInt64, -1, 0, 4, 10, 11, 1<<32 + 6, end, math.MaxInt64} {
		if e := g.Cut(i); e != api.ErrRange {
			t.Errorf("Cut(%d): %d", i, e)
		}
	}
	holds(t, "not cut", g, 5, 2, "3a 3b 4c 4d")
}

// P14.4: a log that was cut goes on from its base, and what is below it is as if it had never been.
func TestCutAndGoOn(t *testing.T) {
	g := rlog.New(0, 0, entries("1a 1b 2c"))
	for _, i := range []int64{1, 1, 3, 3} {
		if e := g.Cut(i); e != api.OK {
			t.Errorf("Cut(%d): %d", i, e)
		}
	}
	if e := g.Cut(1); e != api.ErrRange {
		t.Errorf("Cut below the base: %d", e)
	}
	holds(t, "all cut", g, 3, 2, "")
	put(t, g, 2, 1, "2c", 0, api.ErrOld)
	put(t, g, 2, 1, "2c 2d 3e", 4, api.OK)
	put(t, g, 3, 2, "2d 4e", 5, api.OK)
	holds(t, "gone on", g, 3, 2, "2d 4e")
}

// P14.4: what is kept by a Reset, of a log with the base 5 of term 2 and the entries 6 to 9.
func TestReset(t *testing.T) {
	most := int64(math.MaxInt64)
	for _, c := range []struct {
		what        string
		index, term int64
		done        bool
		after       string
	}{
		{"the base", 5, 2, true, "3a 3b 4c 4d"}, {"the base with another term", 5, 3, true, ""}, {"the base with term 0", 5, 0, true, ""},
		{"an entry", 6, 3, true, "3b 4c 4d"}, {"another entry", 8, 4, true, "4d"}, {"the last entry", 9, 4, true, ""},
		{"an entry with another term", 6, 2, true, ""}, {"one with its neighbour's", 7, 4, true, ""}, {"one with term 0", 7, 0, true, ""},
		{"the last entry with another term", 9, 3, true, ""}, {"behind the last", 10, 4, true, ""}, {"behind the last with term 0", 10, 0, true, ""},
		{"far behind", 1<<32 + 6, 3, true, ""}, {"the end", end, 0, true, ""}, {"the greatest term", 7, most, true, ""}, {"both", end, most, true, ""},
		{"below the base", 4, 2, false, ""}, {"0", 0, 0, false, ""}, {"below 0", -1, 2, false, ""}, {"the lowest", math.MinInt64, 2, false, ""},
		{"a term below 0", 6, -1, false, ""}, {"the lowest term", 9, math.MinInt64, false, ""},
		{"behind the end", end + 1, 4, false, ""}, {"the greatest", most, 4, false, ""},
	} {
		g := rlog.New(5, 2, entries("3a 3b 4c 4d"))
		if done := g.Reset(c.index, c.term); done != c.done {
			t.Errorf("%s: %v", c.what, done)
		}
		if c.done {
			holds(t, c.what, g, c.index, c.term, c.after)
		} else {
			holds(t, c.what, g, 5, 2, "3a 3b 4c 4d")
		}
	}
}

// P14.4: a Reset to a term below 0 changes nothing, even if an entry has that term; a Cut goes by the entry.
func TestTermsBelowZero(t *testing.T) {
	g := rlog.New(0, 0, entries("-3a 1b"))
	if g.Reset(1, -3) {
		t.Error("Reset")
	}
	holds(t, "not reset", g, 0, 0, "-3a 1b")
	if e := g.Cut(1); e != api.OK {
		t.Errorf("Cut: %d", e)
	}
	holds(t, "cut", g, 1, -3, "1b")
}

// P14.4: a log that was reset takes entries behind its new base.
func TestResetAndGoOn(t *testing.T) {
	g := rlog.New(0, 0, entries("1a 1b"))
	g.Reset(7, 3)
	put(t, g, 2, 1, "1c", 0, api.ErrOld)
	put(t, g, 2, 1, "1c 1d 1e 1f 3g 3h 4i", 8, api.OK)
	put(t, g, 7, 2, "3h", 0, api.ErrNone)
	put(t, g, 7, 3, "3h 4i 4j", 10, api.OK)
	holds(t, "gone on", g, 7, 3, "3h 4i 4j")
	g.Reset(8, 3)
	holds(t, "reset again", g, 8, 3, "4i 4j")
}

// R3: what is handed in isn't changed and isn't kept, with room behind it or without.
func TestArgumentsStayApart(t *testing.T) {
	room := entries("1a 1b 2r 2s")
	kept := slices.Clone(room)
	g, h := rlog.New(0, 0, room[:2]), rlog.New(0, 0, room[:2])
	put(t, g, 2, 1, "3c", 3, api.OK)
	put(t, h, 1, 1, "4d 4e", 2, api.OK)
	l := room[2:]
	if i, e := g.Put(3, 3, l); i != 4 || e != api.OK {
		t.Errorf("Put: %d, %d", i, e)
	}
	put(t, g, 5, 2, "5x", 6, api.OK)
	g.Cut(1)
	if !slices.Equal(room, kept) {
		t.Errorf("changed to %s", told(room))
	}
	clear(room)
	holds(t, "the first log", g, 1, 1, "1b 3c 2r 2s 5x")
	holds(t, "the second log", h, 0, 0, "1a 4d 4e")
}

// R3: what was answered stays as it is, whatever is done to the log or to another answer.
func TestAnswersStayApart(t *testing.T) {
	for what, change := range map[string]func(g *rlog.Log){
		"another term": func(g *rlog.Log) { g.Put(5, 2, entries("9x 9y 9z")) },
		"more entries": func(g *rlog.Log) { g.Put(9, 4, entries("9x 9y 9z")) },
		"cut":          func(g *rlog.Log) { g.Cut(8) },
		"all cut":      func(g *rlog.Log) { g.Cut(9) },
		"reset":        func(g *rlog.Log) { g.Reset(7, 3) },
		"all reset":    func(g *rlog.Log) { g.Reset(99, 3) },
		"cut and put":  func(g *rlog.Log) { g.Cut(6); g.Put(6, 3, entries("9x 9y 9z 9p 9q")) },
	} {
		g := rlog.New(5, 2, entries("3a 3b 4c 4d"))
		all, some, none := g.From(6, 4), g.From(7, 2), g.From(7, 0)
		change(g)
		if told(all) != "3a 3b 4c 4d" || told(some) != "3b 4c" || len(none) != 0 {
			t.Errorf("%s: [%s], [%s]", what, told(all), told(some))
		}
	}
}

// R3: what is written into an answer, or behind it, is in no log and in no other answer.
func TestWrittenAnswers(t *testing.T) {
	g := rlog.New(5, 2, entries("3a 3b 4c 4d"))
	all, some := g.From(6, 4), g.From(7, 2)
	longer := append(some, entries("9x 9y")...)
	some[0] = api.Entry{Term: 8, Data: "w"}
	if told(all) != "3a 3b 4c 4d" || told(longer) != "3b 4c 9x 9y" {
		t.Errorf("[%s], [%s]", told(all), told(longer))
	}
	clear(all)
	holds(t, "the log", g, 5, 2, "3a 3b 4c 4d")
}

// P14.3 and R3: a log may be given what it has answered itself.
func TestPutOfItsOwn(t *testing.T) {
	g := rlog.New(0, 0, entries("1a 1b 2c 2d"))
	l := g.From(3, 2)
	if i, e := g.Put(1, 1, l); i != 2 || e != api.OK {
		t.Errorf("Put: %d, %d", i, e)
	}
	holds(t, "moved down", g, 0, 0, "1a 2c 2d")
	if told(l) != "2c 2d" {
		t.Errorf("changed to %s", told(l))
	}
}

// R1: a nil Log, as New answers for what can't be, knows no term and takes nothing.
func TestNilLog(t *testing.T) {
	g := rlog.New(-1, 0, nil)
	for _, i := range []int64{math.MinInt64, -1, 0, 1, end, end + 1, math.MaxInt64} {
		if u, known := g.Term(i); u != 0 || known {
			t.Errorf("Term(%d): %d, %v", i, u, known)
		}
		if e := g.Cut(i); e != api.ErrRange {
			t.Errorf("Cut(%d): %d", i, e)
		}
		if l := g.From(i, 9); len(l) != 0 {
			t.Errorf("From(%d): %v", i, l)
		}
		want := api.ErrNone
		if i < 0 || i > end {
			want = api.ErrRange
		}
		put(t, g, i, 0, "", 0, want)
		if g.Reset(i, 0) || g.Reset(i, 1) {
			t.Errorf("Reset(%d)", i)
		}
		if !g.Newer(i, 1) || g.Newer(i, 0) != (i >= 0) || g.Newer(i, -1) {
			t.Errorf("Newer(%d)", i)
		}
	}
	put(t, g, 0, 0, "1a", 0, api.ErrNone)
	put(t, g, end, 0, "1a", 0, api.ErrRange)
	i, u := g.Base()
	if last, latest := g.Last(); i != 0 || u != 0 || last != 0 || latest != 0 {
		t.Errorf("base %d, %d, last %d, %d", i, u, last, latest)
	}
}

// R1: the zero value is as New makes it of nothing.
func TestZeroLog(t *testing.T) {
	var g rlog.Log
	holds(t, "zero", &g, 0, 0, "")
	put(t, &g, 0, 0, "1a", 1, api.OK)
	holds(t, "put", &g, 0, 0, "1a")
}

// R1: logs of many entries, which come one by one, go one by one, and come again.
func TestManyEntries(t *testing.T) {
	const many = 300000
	g := rlog.New(0, 0, nil)
	for i := range int64(many) {
		if first, e := g.Put(i, min(i, 1), []api.Entry{{Term: 1, Data: "d"}}); first != i+1 || e != api.OK {
			t.Fatalf("Put(%d): %d, %d", i, first, e)
		}
	}
	for i := range int64(many) {
		if e := g.Cut(i + 1); e != api.OK {
			t.Fatalf("Cut(%d): %d", i+1, e)
		}
	}
	all := make([]api.Entry, many)
	for k := range all {
		all[k] = api.Entry{Term: int64(k), Data: "e"}
	}
	if first, e := g.Put(many, 1, all); first != many+1 || e != api.OK {
		t.Fatalf("Put: %d, %d", first, e)
	}
	if l := g.From(many+1, math.MaxInt); !slices.Equal(l, all) {
		t.Errorf("From: %d entries", len(l))
	}
}
