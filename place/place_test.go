package place

import (
	"testing"

	"provost/api"
)

// checkOne checks what May, Takes and Score tell of one node.
func checkOne(t *testing.T, n api.Node, v api.Vec, may bool, score int64) {
	t.Helper()
	if got := May(n); got != may {
		t.Errorf("%.60v: May: %t", n, got)
	}
	if got := Takes(n, v); got != (score >= 0) {
		t.Errorf("%.60v, %d: Takes: %t", n, v, got)
	}
	if got := Score(n, v); got != score {
		t.Errorf("%.60v, %d: Score: %d, not %d", n, v, got, score)
	}
}

// checkAccount checks a node by the second account.
func checkAccount(t *testing.T, n api.Node, v api.Vec) {
	t.Helper()
	checkOne(t, n, v, validByAccount(n), scoreByAccount(n, v))
}

// P10.1: the nodes of the chapter's examples, and others that are ordinary.
func TestOneNode(t *testing.T) {
	for _, c := range []struct {
		n     api.Node
		v     api.Vec
		score int64
	}{
		{one("a", 4, 2), api.Vec{1}, 750},
		{one("b", 4, 1), api.Vec{1}, 500},
		{one("a", 4, 4), api.Vec{1}, -1},
		{drained(one("b", 4, 1)), api.Vec{1}, -1},
		{one("a", 4, 1), api.Vec{1}, 500},
		{one("b", 8, 4), api.Vec{1}, 625},
		{node("a", api.Vec{10, 10, 10}, api.Vec{1, 2, 3}), api.Vec{1, 1, 1}, 400},
		{node("a", api.Vec{10, 10, 10}, api.Vec{1, 2, 3}), api.Vec{8, 1, 1}, 900},
		{node("a", api.Vec{10, 10, 10}, api.Vec{1, 2, 3}), api.Vec{1, 7, 1}, 900},
		{node("a", api.Vec{10, 10, 10}, api.Vec{1, 2, 3}), api.Vec{9, 8, 7}, 1000},
		{node("a", api.Vec{10, 20, 30}, api.Vec{1, 2, 3}), api.Vec{}, 100},
		{node("a", api.Vec{3, 0, 0}, api.Vec{1, 0, 0}), api.Vec{1, 0, 0}, 666},
		{node("a", api.Vec{1001, 1, 1}, api.Vec{}), api.Vec{1}, 0},
		{node("a", api.Vec{1000, 1, 1}, api.Vec{}), api.Vec{1}, 1},
		{node("a", api.Vec{0, 0, 1 << 40}, api.Vec{}), api.Vec{0, 0, 1 << 39}, 500},
	} {
		checkOne(t, c.n, c.v, true, c.score)
		checkAccount(t, c.n, c.v)
	}
}

// P10.1: a node without a name is none, whatever else it has.
func TestNames(t *testing.T) {
	for _, s := range names {
		checkOne(t, one(s, 4, 1), api.Vec{1}, true, 500)
		checkOne(t, node(s, api.Vec{}, api.Vec{}), api.Vec{}, true, 0)
		checkOne(t, drained(one(s, 4, 1)), api.Vec{1}, true, -1)
	}
	for _, s := range notNames {
		checkOne(t, one(s, 4, 1), api.Vec{1}, false, -1)
		checkOne(t, node(s, api.Vec{}, api.Vec{}), api.Vec{}, false, -1)
		checkOne(t, drained(one(s, 4, 1)), api.Vec{1}, false, -1)
	}
}

// P10.1: Cap and Used are valid, and Used fits Cap, in each resource.
func TestAmounts(t *testing.T) {
	for i := range api.Resources {
		for _, most := range telling {
			for _, used := range telling {
				n := node("a", at(i, most, 7), at(i, used, 7))
				may := 0 <= used && used <= most
				score := int64(-1)
				if may {
					score = 1000
				}
				checkOne(t, n, api.Vec{}, may, score)
				checkOne(t, drained(n), api.Vec{}, may, -1)
			}
		}
	}
	checkOne(t, node("a", api.Vec{-1, -1, -1}, api.Vec{-1, -1, -1}), api.Vec{}, false, -1)
	checkOne(t, node("a", api.Vec{-1, -1, -1}, api.Vec{-2, -2, -2}), api.Vec{1, 1, 1}, false, -1)
	checkOne(t, node("a", api.Vec{1, 1, 1}, api.Vec{-1, -1, -1}), api.Vec{1, 1, 1}, false, -1)
	checkOne(t, node("a", api.Vec{bottom, bottom, bottom}, api.Vec{}), api.Vec{}, false, -1)
}

// P10.1: the sum is what counts, in each resource, at the ends of 64 bits and where it would pass them too.
func TestSums(t *testing.T) {
	for i := range api.Resources {
		for _, most := range telling {
			for _, used := range telling {
				for _, v := range telling {
					checkAccount(t, node("a", at(i, most, 9), at(i, used, 3)), at(i, v, 1))
					checkAccount(t, node("a", at(i, most, 0), at(i, used, 0)), at(i, v, 0))
				}
			}
		}
	}
}

// P10.1: a node that is full takes nothing but a demand of zeros, and one with just the room that is asked for takes it.
func TestFullAndJustRoom(t *testing.T) {
	full := node("a", api.Vec{5, 6, 7}, api.Vec{5, 6, 7})
	checkOne(t, full, api.Vec{}, true, 1000)
	for i := range api.Resources {
		checkOne(t, full, at(i, 1, 0), true, -1)
		checkOne(t, full, at(i, top, 0), true, -1)
		for _, n := range []int64{1, 2, 100, 1 << 40, top / 2, top - 1} {
			just := node("a", at(i, n+1, 9), at(i, 1, 0))
			checkOne(t, just, at(i, n, 0), true, 1000)
			checkOne(t, just, at(i, n+1, 0), true, -1)
			checkOne(t, drained(just), at(i, n, 0), true, -1)
		}
		checkOne(t, node("a", at(i, top, 9), api.Vec{}), at(i, top, 0), true, 1000)
		checkOne(t, node("a", at(i, top, 9), at(i, top, 0)), api.Vec{}, true, 1000)
		checkOne(t, node("a", at(i, top-1, 9), api.Vec{}), at(i, top, 0), true, -1)
	}
}

// P10.1: sums that pass 64 bits fit no capacity, in whatever resource; they'd be below 0 in 64 bits.
func TestOverflow(t *testing.T) {
	for i := range api.Resources {
		for _, used := range []int64{1, 2, top / 2, top - 1, top} {
			n := node("a", at(i, top, top), at(i, used, 0))
			for _, v := range []int64{top - used + 1, top/2 + 1, top - 1, top} {
				if v > top-used {
					checkOne(t, n, at(i, v, 0), true, -1)
				}
			}
			checkOne(t, n, at(i, top-used, 0), true, 1000)
		}
	}
}

// P10.1: where a node has none of a resource, it takes what asks for none of it, and that share is 0.
func TestNoneOfAResource(t *testing.T) {
	checkOne(t, node("a", api.Vec{}, api.Vec{}), api.Vec{}, true, 0)
	for i := range api.Resources {
		n := node("a", at(i, 0, 4), at(i, 0, 1))
		checkOne(t, n, api.Vec{}, true, 250)
		checkOne(t, n, at(i, 0, 1), true, 500)
		checkOne(t, n, at(i, 1, 1), true, -1)
		checkOne(t, n, at(i, top, 0), true, -1)
		checkOne(t, node("a", api.Vec{}, api.Vec{}), at(i, 1, 0), true, -1)
		checkOne(t, node("a", at(i, 4, 0), api.Vec{}), at(i, 1, 0), true, 250)
	}
}

// P10.1: no node takes a demand that isn't valid, even where the sum would fit.
func TestDemandsThatMayNotBe(t *testing.T) {
	l := []api.Node{
		one("a", 4, 1), node("a", api.Vec{9, 9, 9}, api.Vec{5, 5, 5}), node("a", api.Vec{top, top, top}, api.Vec{top, top, top}),
		node("a", api.Vec{}, api.Vec{}),
	}
	for i := range api.Resources {
		for _, n := range []int64{-1, -2, -5, -1000, -top, bottom} {
			for _, a := range l {
				checkOne(t, a, at(i, n, 0), true, -1)
				checkOne(t, a, at(i, n, 1), true, -1)
			}
		}
	}
}

// P10.1: a score tells the share of what would be used, rounded down, of great amounts too.
func TestScores(t *testing.T) {
	for i := range api.Resources {
		for _, c := range []struct{ most, used, v, score int64 }{
			{top, 0, 0, 0},
			{top, top / 2, 0, 499},
			{top, top / 2, 1, 500},
			{top, top - 2, 1, 999},
			{top, top - 1, 1, 1000},
			{top, 0, top / 1000, 0},
			{top, 1, top / 1000, 1},
			{7, 1, 1, 285},
			{7, 3, 3, 857},
			{1999, 0, 1, 0},
			{1999, 1, 1, 1},
		} {
			checkOne(t, node("a", at(i, c.most, 1<<40), at(i, c.used, 0)), at(i, c.v, 0), true, c.score)
			checkOne(t, node("a", at(i, c.most, 0), at(i, c.used, 0)), at(i, c.v, 0), true, c.score)
		}
	}
}
