package rlog

import (
	"testing"

	"provost/api"
)

// full is a log of which no entry is zero, with an alias to all the room that its entries have.
func full(n int) (*Log, []api.Entry) {
	var l []api.Entry
	for range n {
		l = append(l, api.Entry{Term: 1, Data: "d"})
	}
	g := New(0, 0, l)
	return g, g.entries[:cap(g.entries)]
}

// The chapter's Ways: in the room that the entries had, nothing is left of those that were cut off.
func TestWhatIsCutOffIsCleared(t *testing.T) {
	for _, c := range []struct {
		what string
		cut  func(g *Log)
		left []int // where entries still are
	}{
		{"cut", func(g *Log) { g.Cut(3) }, []int{3, 4, 5}},
		{"cut twice", func(g *Log) { g.Cut(1); g.Cut(4) }, []int{4, 5}},
		{"all cut", func(g *Log) { g.Cut(6) }, nil},
		{"nothing cut", func(g *Log) { g.Cut(0) }, []int{0, 1, 2, 3, 4, 5}},
		{"reset", func(g *Log) { g.Reset(2, 1) }, []int{2, 3, 4, 5}},
		{"reset of another term", func(g *Log) { g.Reset(2, 2) }, nil},
		{"reset of the base", func(g *Log) { g.Reset(0, 2) }, nil},
		{"reset far behind", func(g *Log) { g.Reset(99, 1) }, nil},
		{"truncated", func(g *Log) { g.Put(2, 1, []api.Entry{{Term: 2}}) }, []int{0, 1}},
		{"all truncated", func(g *Log) { g.Put(0, 0, []api.Entry{{Term: 2}}) }, nil},
		{"cut and truncated", func(g *Log) { g.Cut(2); g.Put(4, 1, []api.Entry{{Term: 2}}) }, []int{2, 3}},
	} {
		g, room := full(6)
		c.cut(g)
		var left []int
		for k, x := range room {
			if x.Data != "" {
				left = append(left, k)
			}
		}
		if len(left) != len(c.left) || len(left) > 0 && (left[0] != c.left[0] || left[len(left)-1] != c.left[len(c.left)-1]) {
			t.Errorf("%s: entries are at %v, want %v", c.what, left, c.left)
		}
	}
}

// The chapter's Ways: the room of a log that entries pass through doesn't grow with what was cut off.
func TestRoomDoesNotGrow(t *testing.T) {
	g := New(0, 0, nil)
	for i := range int64(100000) {
		if _, e := g.Put(i, min(i, 1), []api.Entry{{Term: 1, Data: "d"}}); e != api.OK {
			t.Fatalf("Put(%d): %d", i, e)
		}
		if i >= 10 {
			g.Cut(i - 10)
		}
		if cap(g.entries) > 100 {
			t.Fatalf("%d entries have room for %d", len(g.entries), cap(g.entries))
		}
	}
}
