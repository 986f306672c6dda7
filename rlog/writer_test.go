package rlog_test

import (
	"fmt"
	"math"
	"math/rand"
	"slices"
	"testing"

	"provost/api"
	"provost/rlog"
)

// writer is one writer of entries. In each term it goes on from a part of what it wrote in a term before, so that
// entries with the same index and term are the same, and have the same ones in front of them.
type writer struct {
	terms [][]api.Entry // what it has in each term
}

// write goes on in the latest term, or in a new one.
func (w *writer) write(r *rand.Rand) {
	var l []api.Entry
	if len(w.terms) > 0 {
		l = w.terms[len(w.terms)-1]
	}
	if len(w.terms) == 0 || r.Intn(4) == 0 {
		if len(w.terms) > 0 {
			l = w.terms[r.Intn(len(w.terms))]
		}
		l = l[:r.Intn(len(l)+1)]
		w.terms = append(w.terms, nil)
	}
	term := len(w.terms)
	l = slices.Clone(l)
	for range 1 + r.Intn(3) {
		l = append(l, api.Entry{Term: int64(term), Data: fmt.Sprint("t", term, "n", len(l))})
	}
	w.terms[term-1] = l
}

// part is a part of what the writer had in some term, or has, with the index in front of it and its term.
func (w *writer) part(r *rand.Rand) (int64, int64, []api.Entry) {
	l := w.terms[r.Intn(len(w.terms))]
	if r.Intn(2) == 0 {
		l = w.terms[len(w.terms)-1]
	}
	prev := r.Intn(len(l) + 1)
	term := int64(0)
	if prev > 0 {
		term = l[prev-1].Term
	}
	return int64(prev), term, l[prev:][:r.Intn(len(l)-prev+1)]
}

// agree tells whether two logs are equal up to each entry that they have with the same index and term.
func agree(g, h *rlog.Log) bool {
	a, b := g.From(1, math.MaxInt), h.From(1, math.MaxInt)
	for i := min(len(a), len(b)); i > 0; i-- {
		if a[i-1].Term == b[i-1].Term {
			return slices.Equal(a[:i], b[:i])
		}
	}
	return true
}

// P14.5: logs that are built by Put from what one writer wrote agree, whatever of it comes to them, in whatever order.
func TestLogsOfOneWriter(t *testing.T) {
	long := 0
	for seed := range int64(200) {
		r := rand.New(rand.NewSource(seed))
		w := &writer{}
		logs := []*rlog.Log{rlog.New(0, 0, nil), rlog.New(0, 0, nil), rlog.New(0, 0, nil)}
		for n := range 300 {
			if n == 0 || r.Intn(10) == 0 {
				w.write(r)
			}
			g := logs[r.Intn(len(logs))]
			g.Put(w.part(r))
			for _, h := range logs {
				if !agree(g, h) {
					t.Fatalf("seed %d, step %d:\n%s\n%s", seed, n, told(g.From(1, math.MaxInt)), told(h.From(1, math.MaxInt)))
				}
			}
			if last, _ := g.Last(); last > 5 {
				long++
			}
		}
	}
	if long < 1000 {
		t.Errorf("only %d logs became long", long)
	}
}

// P14.5: what has come to a log from below its base agrees too, where the base is something that all terms begin with.
func TestCutLogsOfOneWriter(t *testing.T) {
	for seed := range int64(200) {
		r := rand.New(rand.NewSource(seed))
		first := entries("1a 1b 1c 1d 1e 1f")
		w := &writer{terms: [][]api.Entry{first}}
		whole, cut := rlog.New(0, 0, first), rlog.New(0, 0, first)
		if base := r.Int63n(7); seed%2 == 0 {
			cut.Cut(base)
		} else {
			cut.Reset(base, min(base, 1))
		}
		index, _ := cut.Base()
		for n := range 200 {
			if n%10 == 0 {
				w.write(r)
				l := &w.terms[len(w.terms)-1]
				// No term goes back behind what is in the base.
				if len(*l) < len(first) || !slices.Equal((*l)[:len(first)], first) {
					*l = append(slices.Clone(first), api.Entry{Term: int64(len(w.terms)), Data: fmt.Sprint("t", len(w.terms))})
				}
			}
			prev, term, l := w.part(r)
			whole.Put(prev, term, l)
			cut.Put(prev, term, l)
			if !slices.Equal(whole.From(index+1, math.MaxInt), cut.From(index+1, math.MaxInt)) {
				t.Fatalf("seed %d, step %d, base %d:\n%s\n%s", seed, n, index, told(whole.From(index+1, math.MaxInt)), told(cut.From(index+1, math.MaxInt)))
			}
		}
	}
}
