package place

import (
	"math/rand"
	"slices"
	"strconv"
	"testing"

	"provost/api"
)

// check checks the rank of l for v, and what is chosen of it.
func check(t *testing.T, l []api.Node, v api.Vec, want ...int) {
	t.Helper()
	if got := Rank(l, v); !slices.Equal(got, want) {
		t.Errorf("%.200v, %d: Rank: %d, not %d", l, v, got, want)
	}
	first, errno := 0, api.ErrRoom
	if len(want) > 0 {
		first, errno = want[0], api.OK
	}
	if slices.Min(v[:]) < 0 {
		errno = api.ErrArg
	}
	if i, e := Choose(l, v); i != first || e != errno {
		t.Errorf("%.200v, %d: Choose: %d and %d, not %d and %d", l, v, i, e, first, errno)
	}
}

// P10.1: the chapter's examples, and ordinary rows.
func TestRank(t *testing.T) {
	v := api.Vec{1}
	check(t, []api.Node{one("a", 4, 2), one("b", 4, 1)}, v, 1, 0)
	check(t, []api.Node{one("a", 4, 4), drained(one("b", 4, 1))}, v)
	check(t, []api.Node{one("a", 4, 1), one("b", 8, 4)}, v, 0, 1)
	check(t, nil, v)
	check(t, []api.Node{}, v)
	check(t, []api.Node{one("a", 4, 0)}, v, 0)
	check(t, []api.Node{one("e", 10, 4), one("d", 10, 0), one("c", 10, 3), one("b", 10, 1), one("a", 10, 2)}, v, 1, 3, 4, 2, 0)
	check(t, []api.Node{one("e", 5, 4), one("d", 5, 5), one("c", 5, 3), one("b", 9, 9), one("a", 1, 0)}, v, 2, 4, 0)
	check(t, []api.Node{
		node("a", api.Vec{10, 10, 10}, api.Vec{5, 0, 0}), node("b", api.Vec{10, 10, 10}, api.Vec{0, 4, 0}),
		node("c", api.Vec{10, 10, 10}, api.Vec{0, 0, 7}), node("d", api.Vec{10, 10, 10}, api.Vec{3, 3, 3}),
	}, api.Vec{1, 1, 1}, 3, 1, 0, 2)
}

// P10.1: a demand of zeros is taken by all that are valid and not drained, also by those that are full.
func TestRankForZeros(t *testing.T) {
	l := []api.Node{one("d", 4, 4), one("c", 4, 2), node("b", api.Vec{}, api.Vec{}), drained(one("a", 4, 0)), one("", 4, 0)}
	check(t, l, api.Vec{}, 2, 1, 0)
	check(t, nil, api.Vec{})
	check(t, []api.Node{{}}, api.Vec{})
	check(t, []api.Node{{Name: "a"}}, api.Vec{}, 0)
}

// P10.1: nodes of equal scores are ordered by their names, which are compared by runes and not by keys.
func TestEqualScores(t *testing.T) {
	var up, down []api.Node
	var ahead, behind []int
	for i, s := range names {
		up = append(up, one(s, 4, 1))
		down = append([]api.Node{one(s, 8, 3)}, down...)
		ahead = append(ahead, i)
		behind = append([]int{i}, behind...)
	}
	check(t, up, api.Vec{1}, ahead...)
	check(t, down, api.Vec{1}, behind...)
	check(t, []api.Node{one("a", 4, 1), one("A", 4, 1), one("b", 4, 1), one("B", 4, 1)}, api.Vec{1}, 1, 3, 0, 2)
	check(t, []api.Node{one("n10", 4, 1), one("n2", 4, 1), one("n1", 4, 1), one("n", 4, 1)}, api.Vec{1}, 3, 2, 0, 1)
	// Equal scores of unlike nodes: 1/2, 2/4, and what is rounded down to 333.
	check(t, []api.Node{one("b", 4, 1), one("a", 2, 0), node("c", api.Vec{9, 6, 0}, api.Vec{0, 3, 0})}, api.Vec{1}, 1, 0, 2)
	check(t, []api.Node{one("c", 3, 0), one("b", 3000, 998), one("a", 3000, 1000)}, api.Vec{1}, 2, 1, 0)
	// The score goes ahead of the name.
	check(t, []api.Node{one("a", 4, 2), one("z", 4, 1)}, api.Vec{1}, 1, 0)
	check(t, []api.Node{one("a", 1000, 501), one("z", 1000, 500)}, api.Vec{1}, 1, 0)
}

// P10.1: nodes whose names and scores are equal are ordered by their indexes, however many there are.
func TestEqualNames(t *testing.T) {
	check(t, []api.Node{one("b", 4, 1), one("a", 4, 1), one("b", 4, 1), one("a", 4, 1)}, api.Vec{1}, 1, 3, 0, 2)
	check(t, []api.Node{one("a", 4, 2), one("a", 4, 1), one("a", 4, 2), one("a", 4, 1)}, api.Vec{1}, 1, 3, 0, 2)
	check(t, []api.Node{one("a", 8, 3), one("a", 4, 1), one("a", 2, 0)}, api.Vec{1}, 0, 1, 2)
	check(t, []api.Node{one("a", 2, 0), one("a", 4, 1), one("a", 8, 3)}, api.Vec{1}, 0, 1, 2)
	for _, n := range []int{2, 11, 12, 13, 31, 100, 5000} {
		var want []int
		for i := range n {
			want = append(want, i)
		}
		check(t, slices.Repeat([]api.Node{one("a", 4, 1)}, n), api.Vec{1}, want...)
	}
	for _, n := range []int{10, 50, 1000} {
		a := []api.Node{one("b", 4, 2), one("a", 4, 1), one("a", 4, 2), one("b", 4, 1), one("a", 4, 1)}
		var want []int
		for _, at := range [][]int{{1, 4}, {3}, {2}, {0}} {
			for i := range n {
				for _, k := range at {
					want = append(want, len(a)*i+k)
				}
			}
		}
		check(t, slices.Repeat(a, n), api.Vec{1}, want...)
	}
}

// misfits are nodes that take nothing, each for one reason.
func misfits() []api.Node {
	l := []api.Node{drained(one("a", 9, 0)), one("a", 9, 9), node("a", api.Vec{}, api.Vec{})}
	for _, s := range notNames {
		l = append(l, one(s, 9, 0))
	}
	for i := range api.Resources {
		for _, n := range []int64{-1, -1000, bottom} {
			l = append(l, node("a", at(i, n, 9), api.Vec{}), node("a", api.Vec{9, 9, 9}, at(i, n, 0)), node("a", at(i, n, 9), at(i, n, 0)))
		}
		l = append(l, node("a", at(i, 9, 9), at(i, 10, 0)), node("a", at(i, 0, 9), at(i, 1, 0)), node("a", at(i, top-1, 9), at(i, top, 0)))
	}
	return l
}

// P10.1: nodes that don't take the demand are not ranked, alone and among others, which keep their indexes.
func TestMisfits(t *testing.T) {
	v := api.Vec{1}
	for _, n := range misfits() {
		check(t, []api.Node{n}, v)
		check(t, []api.Node{n, one("a", 4, 1)}, v, 1)
		check(t, []api.Node{one("a", 4, 1), n}, v, 0)
		check(t, []api.Node{one("b", 4, 2), n, one("a", 4, 2), n, n, one("c", 4, 1)}, v, 5, 2, 0)
	}
	all := misfits()
	check(t, all, v)
	check(t, append(all, one("z", 4, 3), one("y", 4, 2)), v, len(all)+1, len(all))
}

// P10.1: ErrArg goes ahead of ErrRoom, and of any node there is.
func TestChooseForDemandsThatMayNotBe(t *testing.T) {
	rows := [][]api.Node{
		nil, {}, {one("a", 4, 1)}, {one("a", 4, 4)}, {drained(one("a", 4, 1))}, {{}}, misfits(),
		{node("a", api.Vec{9, 9, 9}, api.Vec{9, 9, 9}), node("b", api.Vec{top, top, top}, api.Vec{})},
	}
	for i := range api.Resources {
		for _, n := range []int64{-1, -9, -top, bottom} {
			for _, l := range rows {
				for _, v := range []api.Vec{at(i, n, 0), at(i, n, 1), at(i, n, top)} {
					check(t, l, v)
					if k, e := Choose(l, v); k != 0 || e != api.ErrArg {
						t.Errorf("%.200v, %d: Choose: %d and %d", l, v, k, e)
					}
				}
			}
		}
	}
}

// P10.1: rows of any nodes are ranked as the second account has it.
func TestRows(t *testing.T) {
	r := rand.New(rand.NewSource(10))
	ranked, chosen := 0, 0
	for range 10000 {
		l, v := anyRow(r, 12), anyDemand(r)
		want := rankByAccount(l, v)
		check(t, l, v, want...)
		for _, n := range l {
			checkAccount(t, n, v)
		}
		ranked += len(want)
		chosen += min(len(want), 1)
	}
	if ranked < 15000 || chosen < 5000 || chosen > 9000 {
		t.Errorf("in 10000 rows %d nodes were ranked, and %d were chosen: too few or too many", ranked, chosen)
	}
	for range 20 {
		l, v := anyRow(r, 400), anyDemand(r)
		check(t, l, v, rankByAccount(l, v)...)
	}
}

// nodesOf returns the nodes of l at the indexes.
func nodesOf(l []api.Node, indexes []int) []api.Node {
	var ranked []api.Node
	for _, i := range indexes {
		ranked = append(ranked, l[i])
	}
	return ranked
}

// P10.2: in permuted rows the same nodes come in the same order.
func TestPermuted(t *testing.T) {
	r := rand.New(rand.NewSource(11))
	for range 2000 {
		l, v := anyRow(r, 12), anyDemand(r)
		want := nodesOf(l, Rank(l, v))
		_, errno := Choose(l, v)
		for range 4 {
			r.Shuffle(len(l), func(i, j int) { l[i], l[j] = l[j], l[i] })
			// Nodes with equal names and scores may be unlike ones, which the indexes order.
			got := nodesOf(l, Rank(l, v))
			if !slices.EqualFunc(got, want, func(a, b api.Node) bool { return a.Name == b.Name && Score(a, v) == Score(b, v) }) {
				t.Errorf("%v, %d: %v, not %v", l, v, got, want)
			}
			k, e := Choose(l, v)
			if e != errno || e == api.OK && (l[k].Name != want[0].Name || Score(l[k], v) != Score(want[0], v)) {
				t.Errorf("%v, %d: %d and %d", l, v, k, e)
			}
		}
	}
}

// P10.2: with names that are all unlike, permuting changes the indexes alone; all orders of five nodes are tried.
func TestAllOrders(t *testing.T) {
	l := []api.Node{one("a", 4, 2), one("b", 4, 1), one("c", 8, 3), drained(one("d", 4, 0)), one("e", 4, 3)}
	v := api.Vec{1}
	orders := 0
	var permute func(k int)
	permute = func(k int) {
		if k < len(l) {
			for i := k; i < len(l); i++ {
				l[k], l[i] = l[i], l[k]
				permute(k + 1)
				l[k], l[i] = l[i], l[k]
			}
			return
		}
		orders++
		var want []int
		for _, s := range []string{"b", "c", "a", "e"} {
			want = append(want, slices.IndexFunc(l, func(n api.Node) bool { return n.Name == s }))
		}
		check(t, l, v, want...)
	}
	permute(0)
	if orders != 120 {
		t.Errorf("%d orders", orders)
	}
}

// P10.2: the chosen node has room for the demand, and none that has it has a better score.
func TestChosenHasRoom(t *testing.T) {
	r := rand.New(rand.NewSource(12))
	for range 5000 {
		l, v := anyRow(r, 12), anyDemand(r)
		k, e := Choose(l, v)
		if e != api.OK {
			continue
		}
		for i := range v {
			if v[i] < 0 || l[k].Used[i] < 0 || v[i] > l[k].Cap[i]-l[k].Used[i] {
				t.Errorf("%v has no room for %d", l[k], v)
			}
		}
		for _, n := range l {
			if s := scoreByAccount(n, v); s >= 0 && s < Score(l[k], v) {
				t.Errorf("%v is chosen for %d, not %v", l[k], v, n)
			}
		}
	}
}

// P10.2: with one node more, wherever it stands, the score of the chosen one is no worse, and the others' order stays.
func TestOneNodeMore(t *testing.T) {
	r := rand.New(rand.NewSource(13))
	for range 5000 {
		l, v, n := anyRow(r, 12), anyDemand(r), anyNode(r)
		where := r.Intn(len(l) + 1)
		more := slices.Insert(slices.Clone(l), where, n)
		var left []int
		for _, i := range Rank(more, v) {
			if i < where {
				left = append(left, i)
			} else if i > where {
				left = append(left, i-1)
			}
		}
		if got := Rank(l, v); !slices.Equal(got, left) {
			t.Errorf("%v, %d: %d without %v at %d, %d with it", l, v, got, n, where, left)
		}
		a, e := Choose(l, v)
		if e != api.OK {
			continue
		}
		if b, e := Choose(more, v); e != api.OK || Score(more[b], v) > Score(l[a], v) {
			t.Errorf("%v, %d: %v is chosen, and with %v at %d it is %d, %d", l, v, l[a], n, where, b, e)
		}
	}
}

// R3, R4 and R5: the row stays as it is, and what is written into it, or into a rank, changes no later answer.
func TestNothingIsKept(t *testing.T) {
	r := rand.New(rand.NewSource(14))
	for range 1000 {
		l, v := anyRow(r, 12), anyDemand(r)
		kept := slices.Clone(l)
		want := rankByAccount(l, v)
		ranked := Rank(l, v)
		check(t, l, v, want...)
		if !slices.Equal(l, kept) {
			t.Errorf("%v has become %v", kept, l)
		}
		for i := range l {
			l[i] = anyNode(r)
		}
		if !slices.Equal(ranked, want) {
			t.Errorf("%d: the rank has become %d", want, ranked)
		}
		for i := range ranked {
			ranked[i] = -1
		}
		check(t, kept, v, want...)
		check(t, l, v, rankByAccount(l, v)...)
	}
}

// R3: a row that is a part of a longer one is ranked alone, and what is behind it stays.
func TestPartOfARow(t *testing.T) {
	l := []api.Node{one("c", 4, 2), one("b", 4, 1), one("a", 4, 0), one("d", 4, 0)}
	kept := slices.Clone(l)
	check(t, l[:2], api.Vec{1}, 1, 0)
	check(t, l[1:2], api.Vec{1}, 0)
	check(t, l[:0], api.Vec{1})
	check(t, l, api.Vec{1}, 2, 3, 1, 0)
	if !slices.Equal(l, kept) {
		t.Errorf("%v has become %v", kept, l)
	}
}

// R1: long rows are ranked soon, whatever order they are in.
func TestLongRows(t *testing.T) {
	const n = 1 << 17
	var up, down, alike []api.Node
	var indexes, backward []int
	for i := range n {
		up = append(up, one("n"+strconv.Itoa(n+i), 1000*n, int64(1000*i)))
		alike = append(alike, one("n"+strconv.Itoa(n+i), 4, 1))
		indexes = append(indexes, i)
	}
	// Scores are equal in runs, within which the names order: n + i has six digits, so that these go up.
	check(t, up, api.Vec{}, indexes...)
	check(t, alike, api.Vec{1}, indexes...)
	for i := range n {
		down = append(down, up[n-1-i])
		backward = append(backward, n-1-i)
	}
	check(t, down, api.Vec{}, backward...)
	check(t, slices.Repeat([]api.Node{one("a", 1, 1)}, n), api.Vec{1})
}
