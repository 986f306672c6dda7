package rlog_test

import (
	"fmt"
	"math"
	"math/rand"
	"slices"
	"strings"
	"testing"

	"provost/api"
)

// call is one call that may change a log: its word, with what is given to it.
type call struct {
	word        string
	index, term int64
	l           []api.Entry
}

func (c call) String() string { return fmt.Sprint(c.word, " ", c.index, " ", c.term, " ", told(c.l)) }

// answer is what a call answers.
type answer struct {
	first int64
	errno api.Errno
	done  bool
}

// on makes the call.
func (c call) on(g log) answer {
	switch c.word {
	case "put":
		i, e := g.Put(c.index, c.term, c.l)
		return answer{first: i, errno: e}
	case "cut":
		return answer{errno: g.Cut(c.index)}
	case "reset":
		return answer{done: g.Reset(c.index, c.term)}
	}
	panic("no call: " + c.word)
}

// told tells entries, each by its term and data: 1a 1b 2c.
func told(l []api.Entry) string {
	s := ""
	for _, x := range l {
		s += fmt.Sprint(" ", x.Term, x.Data)
	}
	return strings.TrimPrefix(s, " ")
}

// entries are the ones that told tells so.
func entries(s string) []api.Entry {
	var l []api.Entry
	for _, word := range strings.Fields(s) {
		var x api.Entry
		if n, _ := fmt.Sscanf(word, "%d%s", &x.Term, &x.Data); n == 0 {
			panic("no entry: " + word)
		}
		l = append(l, x)
	}
	return l
}

// around are the indexes that a log has, a few around them, and some far from them.
func around(g log) []int64 {
	index, _ := g.Base()
	last, _ := g.Last()
	l := []int64{math.MinInt64, -1, 0, math.MaxInt64}
	for d := int64(-2); d <= last-index+2; d++ {
		l = append(l, index+d)
	}
	return l
}

// counts are how many entries are asked for.
func counts() []int { return []int{math.MinInt, -1, 0, 1, 2, math.MaxInt} }

// look tells all that a log answers about itself.
func look(g log) string {
	index, term := g.Base()
	last, latest := g.Last()
	s := fmt.Sprint("base ", index, " ", term, " last ", last, " ", latest, ":")
	for _, i := range around(g) {
		u, known := g.Term(i)
		s += fmt.Sprint(" ", i, " ", u, known)
		for _, many := range counts() {
			s += fmt.Sprint("[", told(g.From(i, many)), "]")
		}
		for _, u := range []int64{latest - 1, latest, latest + 1} {
			s += fmt.Sprint(g.Newer(i, u))
		}
	}
	return s
}

// same tells whether two logs look the same, without telling how they look, so that many can be held against each other.
func same(g, a log) bool {
	index, term := g.Base()
	last, latest := g.Last()
	if i, u := a.Base(); i != index || u != term {
		return false
	}
	if i, u := a.Last(); i != last || u != latest {
		return false
	}
	for _, i := range around(a) {
		u, known := g.Term(i)
		if v, has := a.Term(i); v != u || has != known {
			return false
		}
		for _, many := range counts() {
			if !slices.Equal(g.From(i, many), a.From(i, many)) {
				return false
			}
		}
		for _, u := range []int64{latest - 1, latest, latest + 1} {
			if g.Newer(i, u) != a.Newer(i, u) {
				return false
			}
		}
	}
	return true
}

// play makes the calls on a log and on its account, and holds the answers and all that the log tells after the last
// call against each other.
func play(t *testing.T, g, a log, calls ...call) {
	t.Helper()
	for _, c := range calls {
		if got, want := c.on(g), c.on(a); got != want {
			t.Fatalf("%v: got %v, want %v", calls, got, want)
		}
	}
	if !same(g, a) {
		t.Fatalf("%v:\ngot  %s\nwant %s", calls, look(g), look(a))
	}
}

// starts are what scripts begin with: a base, and the entries behind it.
func starts() []call {
	return []call{
		{index: 0, term: 0},
		{index: 0, term: 0, l: entries("1a 1b 2c")},
		{index: 2, term: 1, l: entries("1a 2b")},
		{index: 3, term: 2},
	}
}

// some are calls with all indexes and terms up to the ones told, and lists of entries of so many.
func some(indexes, terms int64, longest int) []call {
	var calls []call
	for i := range indexes + 1 {
		calls = append(calls, call{word: "cut", index: i})
		for u := range terms + 1 {
			calls = append(calls, call{word: "reset", index: i, term: u})
			for _, l := range lists(terms, longest) {
				calls = append(calls, call{"put", i, u, l})
			}
		}
	}
	return calls
}

// lists are the lists of at most so many entries, of all terms from 1 on that don't fall.
func lists(terms int64, longest int) [][]api.Entry {
	all := [][]api.Entry{nil}
	for k := 0; k < len(all); k++ {
		l := all[k]
		if len(l) == longest {
			continue
		}
		least := int64(1)
		if len(l) > 0 {
			least = l[len(l)-1].Term
		}
		for u := least; u <= terms; u++ {
			all = append(all, append(slices.Clone(l), api.Entry{Term: u, Data: string(rune('p' + k))}))
		}
	}
	return all
}

// P14.1 to P14.4: all scripts of two calls, and all scripts of three with fewer kinds of them, on each of the starts.
func TestAllScripts(t *testing.T) {
	for _, s := range starts() {
		one, two := some(6, 2, 3), some(4, 2, 1)
		for _, first := range one {
			for _, second := range one {
				g, a := both(s.index, s.term, s.l)
				play(t, g, a, first, second)
			}
		}
		for _, first := range two {
			for _, second := range two {
				for _, third := range two {
					g, a := both(s.index, s.term, s.l)
					play(t, g, a, first, second, third)
				}
			}
		}
	}
}

// near is an index that the log has, or one around, and now and then one far from it.
func near(r *rand.Rand, g log) int64 {
	index, _ := g.Base()
	last, _ := g.Last()
	far := []int64{math.MinInt64, -1, 0, end - 1, end, end + 1, math.MaxInt64}
	if r.Intn(40) == 0 {
		return far[r.Intn(len(far))]
	}
	return index - 2 + r.Int63n(last-index+5)
}

// termOf is the index's term, as far as it is known, and now and then another one.
func termOf(r *rand.Rand, g log, i int64) int64 {
	if u, known := g.Term(i); known && r.Intn(5) > 0 {
		return u
	}
	return r.Int63n(6) - 1
}

// anyCall is a call that fits the log, or nearly so. The data tell the call by its number.
func anyCall(r *rand.Rand, g log, number int) call {
	i := near(r, g)
	switch r.Intn(40) {
	case 0, 1, 2:
		return call{word: "cut", index: i}
	case 3:
		return call{word: "reset", index: i, term: termOf(r, g, i)}
	}
	var l []api.Entry
	for k := range int64(r.Intn(6)) {
		u := int64(r.Intn(7) - 1)
		if has, known := g.Term(i + 1 + k); known && r.Intn(8) > 0 {
			u = has
		}
		l = append(l, api.Entry{Term: u, Data: fmt.Sprint("n", number, "-", k)})
	}
	return call{"put", i, termOf(r, g, i), l}
}

// P14.1 to P14.4: long runs, near the lowest indexes and near the greatest ones.
func TestLongRuns(t *testing.T) {
	for seed := range int64(60) {
		r := rand.New(rand.NewSource(seed))
		start := []int64{0, 1, 1000, end - 40}[seed%4]
		g, a := both(start, r.Int63n(3), nil)
		for n := range 400 {
			play(t, g, a, anyCall(r, a, n))
			if index, _ := a.Base(); index > end-3 {
				g, a = both(start, r.Int63n(3), nil)
			}
		}
	}
}

// P14.1 to P14.4: a log that is told anew by its base and what From answers goes on as the first one does.
func TestToldAnew(t *testing.T) {
	for seed := range int64(30) {
		r := rand.New(rand.NewSource(100 + seed))
		g, a := both(7, 1, nil)
		for n := range 200 {
			c := anyCall(r, a, n)
			play(t, g, a, c)
			if index, term := g.Base(); term >= 0 {
				g, _ = both(index, term, g.From(index+1, math.MaxInt))
				if !same(g, a) {
					t.Fatalf("seed %d, behind %v:\ngot  %s\nwant %s", seed, c, look(g), look(a))
				}
			}
		}
	}
}

// R4 and R5: two logs that are used by turns do as each of them would alone.
func TestTwoLogs(t *testing.T) {
	r := rand.New(rand.NewSource(5))
	g, a := both(0, 0, entries("1a 1b"))
	h, b := both(0, 0, entries("1a 1b"))
	for n := range 2000 {
		if r.Intn(2) == 0 {
			play(t, g, a, anyCall(r, a, n))
		} else {
			play(t, h, b, anyCall(r, b, n))
		}
		if !same(g, a) || !same(h, b) {
			t.Fatalf("call %d has changed the other log", n)
		}
	}
}
