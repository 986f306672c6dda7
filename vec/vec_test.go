package vec

import (
	"math"
	"math/big"
	"math/rand"
	"slices"
	"testing"

	"provost/api"
)

const (
	top    = math.MaxInt64
	bottom = math.MinInt64
)

// telling are amounts at and about the ends of 64 bits, of 32 bits, and about 0.
var telling = []int64{
	bottom, bottom + 1, bottom + 2, bottom / 2, bottom/2 - 1, -1 << 32, -1001, -1000, -2, -1,
	0, 1, 2, 3, 999, 1000, 1001, 1 << 32, top / 1000, top/1000 + 1, top / 2, top/2 + 1, top - 1, top,
}

// at is the Vec with n at i, and the ordinary amount 7 beside it.
func at(i int, n int64) api.Vec {
	v := api.Vec{7, 7, 7}
	v[i] = n
	return v
}

func randomAmount(r *rand.Rand) int64 {
	switch r.Intn(3) {
	case 0:
		return telling[r.Intn(len(telling))]
	case 1:
		return r.Int63n(2001) - 1000
	}
	return int64(r.Uint64())
}

func randomVec(r *rand.Rand) api.Vec {
	var v api.Vec
	for i := range v {
		v[i] = randomAmount(r)
	}
	return v
}

func randomValid(r *rand.Rand) api.Vec {
	v := randomVec(r)
	for i := range v {
		v[i] &= top
	}
	return v
}

// exact is what the sum of l comes to in whole numbers, where the one at minus, if there is one, is taken away.
func exact(l []api.Vec, minus int) (api.Vec, api.Errno) {
	var v api.Vec
	for i := range v {
		n := new(big.Int)
		for k, a := range l {
			if k == minus {
				n.Sub(n, big.NewInt(a[i]))
			} else {
				n.Add(n, big.NewInt(a[i]))
			}
		}
		if !n.IsInt64() {
			return api.Vec{}, api.ErrOver
		}
		v[i] = n.Int64()
	}
	return v, api.OK
}

// exactShare is Share as the chapter's words have it, in whole numbers.
func exactShare(a, b api.Vec) int64 {
	greatest := int64(0)
	for i := range a {
		if a[i] < 0 || b[i] < 0 {
			return 0
		}
	}
	for i := range a {
		one := int64(0)
		if a[i] > b[i] {
			one = 1000
		} else if b[i] > 0 {
			n := new(big.Int).Mul(big.NewInt(1000), big.NewInt(a[i]))
			one = n.Quo(n, big.NewInt(b[i])).Int64()
		}
		greatest = max(greatest, one)
	}
	return greatest
}

type outcome struct {
	v api.Vec
	e api.Errno
}

func check(t *testing.T, what string, v api.Vec, e api.Errno, want outcome) {
	t.Helper()
	if v != want.v || e != want.e {
		t.Errorf("%s: got %v and %d, want %v and %d", what, v, e, want.v, want.e)
	}
}

// P3.1: a Vec may be if none of its components is below 0.
func TestMay(t *testing.T) {
	for _, v := range []api.Vec{{}, {1, 2, 3}, {top, top, top}, {0, 0, top}, {0, 1, 0}} {
		if !May(v) {
			t.Errorf("%v may not be", v)
		}
	}
	for i := range api.Resources {
		for _, n := range []int64{-1, -2, -1000, -1 << 32, -top, bottom} {
			if May(at(i, n)) {
				t.Errorf("%v may be", at(i, n))
			}
		}
	}
	if May(api.Vec{-1, -1, -1}) || May(api.Vec{bottom, bottom, bottom}) {
		t.Error("a Vec of nothing but numbers below 0 may be")
	}
}

// P3.1: one fits another if each component is at most the other's, numbers below 0 among them.
func TestFits(t *testing.T) {
	for _, c := range []struct {
		a, b api.Vec
		want bool
	}{
		{api.Vec{}, api.Vec{}, true},
		{api.Vec{1, 2, 3}, api.Vec{1, 2, 3}, true},
		{api.Vec{1, 2, 3}, api.Vec{4, 5, 6}, true},
		{api.Vec{4, 5, 6}, api.Vec{1, 2, 3}, false},
		{api.Vec{1, 9, 1}, api.Vec{9, 1, 9}, false},
		{api.Vec{-5, -5, -5}, api.Vec{}, true},
		{api.Vec{}, api.Vec{-1, -1, -1}, false},
		{api.Vec{bottom, bottom, bottom}, api.Vec{top, top, top}, true},
		{api.Vec{top, top, top}, api.Vec{bottom, bottom, bottom}, false},
		{api.Vec{bottom, 0, top}, api.Vec{bottom, 0, top}, true},
	} {
		if got := Fits(c.a, c.b); got != c.want {
			t.Errorf("%v in %v: got %t", c.a, c.b, got)
		}
	}
}

// P3.1: each component counts, whichever it is, at whatever amounts.
func TestFitsByEachComponent(t *testing.T) {
	for i := range api.Resources {
		for _, a := range telling {
			for _, b := range telling {
				if got := Fits(at(i, a), at(i, b)); got != (a <= b) {
					t.Errorf("%d in %d at %d: got %t", a, b, i, got)
				}
			}
		}
	}
}

// P3.1: sums and differences of ordinary Vecs, and of those at the ends of 64 bits.
func TestAddAndSub(t *testing.T) {
	over := outcome{e: api.ErrOver}
	for _, c := range []struct {
		a, b     api.Vec
		sum, dif outcome
	}{
		{api.Vec{}, api.Vec{}, outcome{}, outcome{}},
		{api.Vec{1, 2, 3}, api.Vec{4, 5, 6}, outcome{v: api.Vec{5, 7, 9}}, outcome{v: api.Vec{-3, -3, -3}}},
		{api.Vec{-1, 2, -3}, api.Vec{4, -5, -6}, outcome{v: api.Vec{3, -3, -9}}, outcome{v: api.Vec{-5, 7, 3}}},
		{api.Vec{top, 0, 0}, api.Vec{1, 0, 0}, over, outcome{v: api.Vec{top - 1, 0, 0}}},
		{api.Vec{top, top, top}, api.Vec{}, outcome{v: api.Vec{top, top, top}}, outcome{v: api.Vec{top, top, top}}},
		{api.Vec{0, bottom, 0}, api.Vec{0, 1, 0}, outcome{v: api.Vec{0, -top, 0}}, over},
		{api.Vec{0, 0, bottom}, api.Vec{0, 0, bottom}, over, outcome{}},
		{api.Vec{0, 0, 0}, api.Vec{bottom, 0, 0}, outcome{v: api.Vec{bottom, 0, 0}}, over},
		{api.Vec{-1, 0, 0}, api.Vec{bottom, 0, 0}, over, outcome{v: api.Vec{top, 0, 0}}},
		{api.Vec{top, 1, 1}, api.Vec{bottom, 1, 1}, outcome{v: api.Vec{-1, 2, 2}}, over},
		{api.Vec{1 << 62, 0, 0}, api.Vec{1 << 62, 0, 0}, over, outcome{}},
		{api.Vec{-1 << 62, 0, 0}, api.Vec{-1 << 62, 0, 0}, outcome{v: api.Vec{bottom, 0, 0}}, outcome{}},
		{api.Vec{top, bottom, 5}, api.Vec{-1, 1, 5}, outcome{v: api.Vec{top - 1, -top, 10}}, over},
	} {
		v, e := Add(c.a, c.b)
		check(t, "sum", v, e, c.sum)
		v, e = Sub(c.a, c.b)
		check(t, "difference", v, e, c.dif)
	}
}

// P3.1: one component that is over is enough, whichever it is, and then the others are not told.
func TestAddAndSubOfEachComponent(t *testing.T) {
	for i := range api.Resources {
		for _, a := range telling {
			for _, b := range telling {
				l := []api.Vec{at(i, a), at(i, b)}
				v, e := Add(l[0], l[1])
				wantV, wantE := exact(l, -1)
				check(t, "sum", v, e, outcome{wantV, wantE})
				v, e = Sub(l[0], l[1])
				wantV, wantE = exact(l, 1)
				check(t, "difference", v, e, outcome{wantV, wantE})
			}
		}
	}
}

// P3.2: no Vecs, one Vec, and sums that pass 64 bits in between.
func TestSum(t *testing.T) {
	over := outcome{e: api.ErrOver}
	for _, c := range []struct {
		name string
		l    []api.Vec
		want outcome
	}{
		{"nil", nil, outcome{}},
		{"none", []api.Vec{}, outcome{}},
		{"one", []api.Vec{{1, -2, 3}}, outcome{v: api.Vec{1, -2, 3}}},
		{"one at the ends", []api.Vec{{top, bottom, 0}}, outcome{v: api.Vec{top, bottom, 0}}},
		{"three", []api.Vec{{1, 2, 3}, {10, 20, 30}, {100, 200, 300}}, outcome{v: api.Vec{111, 222, 333}}},
		{"back from above", []api.Vec{{top, 1, 1}, {1, 1, 1}, {-1, 1, 1}}, outcome{v: api.Vec{top, 3, 3}}},
		{"back from below", []api.Vec{{1, bottom, 1}, {1, -1, 1}, {1, 1, 1}}, outcome{v: api.Vec{3, bottom, 3}}},
		{"far above and back", []api.Vec{{top}, {top}, {top}, {-top}, {-top}, {-7}}, outcome{v: api.Vec{top - 7}}},
		{"far below and back", []api.Vec{{0, 0, bottom}, {0, 0, bottom}, {0, 0, bottom}, {0, 0, top}, {0, 0, top}, {0, 0, 2}}, outcome{v: api.Vec{0, 0, bottom}}},
		{"one above the end", []api.Vec{{0, top, 0}, {0, -5, 0}, {0, 6, 0}}, over},
		{"one below the end", []api.Vec{{bottom, 0, 0}, {5, 0, 0}, {-6, 0, 0}}, over},
		{"twice the lowest: 0 in 64 bits", []api.Vec{{0, 0, bottom}, {0, 0, bottom}}, over},
		{"four times 2^62: 0 in 64 bits", []api.Vec{{1 << 62}, {1 << 62}, {1 << 62}, {1 << 62}}, over},
		{"one round of 64 bits and 7", []api.Vec{{top}, {top}, {9}}, over},
		{"opposite rounds in two components", []api.Vec{{top, bottom, 1}, {top, bottom, 1}, {2, 0, 1}}, over},
		{"only the last component over", []api.Vec{{1, 1, top}, {1, 1, 1}}, over},
	} {
		v, e := Sum(c.l...)
		check(t, c.name, v, e, c.want)
	}
}

// P3.2: very many Vecs that lead far out of 64 bits and back.
func TestSumOfVeryManyVecs(t *testing.T) {
	const n = 1 << 18
	l := make([]api.Vec, 0, 2*n+1)
	for range n {
		l = append(l, api.Vec{top, bottom, top})
	}
	if v, e := Sum(l...); v != (api.Vec{}) || e != api.ErrOver {
		t.Errorf("on the way: got %v and %d", v, e)
	}
	for range n {
		l = append(l, api.Vec{-top, top, bottom})
	}
	v, e := Sum(l...)
	check(t, "back", v, e, outcome{v: api.Vec{0, -n, -n}})
	v, e = Sum(append(l, api.Vec{top, bottom + n, bottom + n})...)
	check(t, "to the ends", v, e, outcome{v: api.Vec{top, bottom, bottom}})
	v, e = Sum(append(l, api.Vec{top, bottom + n - 1, 0})...)
	check(t, "past an end", v, e, outcome{e: api.ErrOver})
}

// P3.2: sums of any Vecs are those in whole numbers.
func TestSumOfRandomVecs(t *testing.T) {
	r := rand.New(rand.NewSource(1))
	fitting := 0
	for range 20000 {
		l := make([]api.Vec, r.Intn(7))
		for i := range l {
			l[i] = randomVec(r)
		}
		v, e := Sum(l...)
		wantV, wantE := exact(l, -1)
		check(t, "sum", v, e, outcome{wantV, wantE})
		if e == api.OK {
			fitting++
		}
	}
	if fitting < 1000 || fitting > 19000 {
		t.Errorf("%d of 20000 sums fit: too few of one kind", fitting)
	}
}

// R3 and R4: the Vecs that are summed are left as they are, and the same call answers the same.
func TestSumLeavesItsVecs(t *testing.T) {
	l := []api.Vec{{top, 1, 2}, {1, bottom, 3}, {-1, 0, 4}}
	kept := slices.Clone(l)
	for range 3 {
		v, e := Sum(l...)
		check(t, "sum", v, e, outcome{v: api.Vec{top, -top, 9}})
	}
	if !slices.Equal(l, kept) {
		t.Errorf("the Vecs are now %v", l)
	}
}

// P3.3: ordinary shares, rounded down, where b has none of a resource, and of great amounts.
func TestShare(t *testing.T) {
	for _, c := range []struct {
		a, b api.Vec
		want int64
	}{
		{api.Vec{}, api.Vec{}, 0},
		{api.Vec{}, api.Vec{3, 4, 5}, 0},
		{api.Vec{1, 0, 0}, api.Vec{3, 0, 0}, 333},
		{api.Vec{0, 2, 0}, api.Vec{0, 3, 0}, 666},
		{api.Vec{1, 0, 5}, api.Vec{3, 0, 5}, 1000},
		{api.Vec{1, 1, 1}, api.Vec{1001, 1000, 999}, 1},
		{api.Vec{0, 0, 1}, api.Vec{0, 0, 1001}, 0},
		{api.Vec{0, 1, 7}, api.Vec{9, 4, 8}, 875},
		{api.Vec{7, 1, 0}, api.Vec{8, 4, 9}, 875},
		{api.Vec{1, 7, 0}, api.Vec{4, 8, 9}, 875},
		{api.Vec{1, 0, 0}, api.Vec{0, 0, 0}, 1000},
		{api.Vec{0, 0, 1}, api.Vec{9, 9, 0}, 1000},
		{api.Vec{0, 1, 0}, api.Vec{0, 2, 0}, 500},
		{api.Vec{4, 1, 1}, api.Vec{3, 9, 9}, 1000},
		{api.Vec{top, 0, 0}, api.Vec{1, 0, 0}, 1000},
		{api.Vec{top, 0, 0}, api.Vec{0, 0, 0}, 1000},
		{api.Vec{top, top, top}, api.Vec{top, top, top}, 1000},
		{api.Vec{top - 1, 0, 0}, api.Vec{top, 0, 0}, 999},
		{api.Vec{0, top / 2, 0}, api.Vec{0, top, 0}, 499},
		{api.Vec{0, top/2 + 1, 0}, api.Vec{0, top, 0}, 500},
		{api.Vec{0, 0, top / 1000}, api.Vec{0, 0, top}, 0},
		{api.Vec{0, 0, top/1000 + 1}, api.Vec{0, 0, top}, 1},
		{api.Vec{1, 1, 1}, api.Vec{top, top, top}, 0},
	} {
		if got := Share(c.a, c.b); got != c.want {
			t.Errorf("%v of %v: got %d, want %d", c.a, c.b, got, c.want)
		}
	}
}

// P3.3: there is no share if either Vec has a component below 0, whatever the other components' shares are.
func TestShareOfVecsThatMayNotBe(t *testing.T) {
	for i := range api.Resources {
		for _, n := range []int64{-1, -1000, -top, bottom} {
			for _, good := range []api.Vec{{}, {1, 1, 1}, {7, 7, 7}, {8, 8, 8}, {top, top, top}} {
				if got := Share(at(i, n), good); got != 0 {
					t.Errorf("%v of %v: got %d", at(i, n), good, got)
				}
				if got := Share(good, at(i, n)); got != 0 {
					t.Errorf("%v of %v: got %d", good, at(i, n), got)
				}
			}
			if got := Share(at(i, n), at(i, n)); got != 0 {
				t.Errorf("%v of itself: got %d", at(i, n), got)
			}
		}
	}
}

// P3.3: shares of any Vecs are those in whole numbers.
func TestShareOfRandomVecs(t *testing.T) {
	r := rand.New(rand.NewSource(2))
	between := 0
	for k := range 40000 {
		a, b := randomValid(r), randomValid(r)
		switch k % 4 {
		case 1:
			for i := range a {
				a[i] = min(a[i], b[i])
			}
		case 2:
			a, b = randomVec(r), randomVec(r)
		case 3:
			b = randomVec(r)
		}
		got, want := Share(a, b), exactShare(a, b)
		if got != want {
			t.Fatalf("%v of %v: got %d, want %d", a, b, got, want)
		}
		if got > 0 && got < 1000 {
			between++
		}
	}
	if between < 1000 {
		t.Errorf("only %d shares are between 0 and 1000", between)
	}
}

// P3.3: each pair of telling amounts has its share, in each component.
func TestShareOfEachComponent(t *testing.T) {
	for i := range api.Resources {
		for _, n := range telling {
			for _, m := range telling {
				var a, b api.Vec
				a[i], b[i] = n, m
				if got, want := Share(a, b), exactShare(a, b); got != want {
					t.Errorf("%v of %v: got %d, want %d", a, b, got, want)
				}
			}
		}
	}
}

// P3.4: the order in which Vecs are summed does not matter, whether the sum fits or not.
func TestOrderDoesNotMatter(t *testing.T) {
	r := rand.New(rand.NewSource(3))
	for range 300 {
		l := make([]api.Vec, 2+r.Intn(6))
		for i := range l {
			l[i] = randomVec(r)
		}
		v, e := Sum(l...)
		for range 30 {
			r.Shuffle(len(l), func(i, j int) { l[i], l[j] = l[j], l[i] })
			w, f := Sum(l...)
			check(t, "in another order", w, f, outcome{v, e})
		}
	}
}

// P3.4: a Vec comes back when what was added to it is taken away, and the other way round.
func TestTakingAwayRestores(t *testing.T) {
	r := rand.New(rand.NewSource(4))
	restored := 0
	for range 20000 {
		a, b := randomVec(r), randomVec(r)
		if sum, e := Add(a, b); e == api.OK {
			restored++
			v, e := Sub(sum, b)
			check(t, "added and taken away", v, e, outcome{v: a})
			v, e = Sub(sum, a)
			check(t, "added, and the other taken away", v, e, outcome{v: b})
		}
		if dif, e := Sub(a, b); e == api.OK {
			v, e := Add(dif, b)
			check(t, "taken away and added", v, e, outcome{v: a})
		}
	}
	if restored < 1000 {
		t.Errorf("only %d sums fit", restored)
	}
}

// P3.4: what fits one that fits another fits that other too; and of two that fit each other there is but one.
func TestFittingGoesOn(t *testing.T) {
	var l []api.Vec
	few := []int64{bottom, -1, 0, 1, top}
	for _, x := range few {
		for _, y := range few {
			l = append(l, api.Vec{x, y, 0}, api.Vec{y, 0, x}, api.Vec{0, x, y})
		}
	}
	for _, a := range l {
		for _, b := range l {
			if Fits(a, b) && Fits(b, a) != (a == b) {
				t.Errorf("%v and %v fit each other", a, b)
			}
			for _, c := range l {
				if Fits(a, b) && Fits(b, c) && !Fits(a, c) {
					t.Errorf("%v fits %v, which fits %v", a, b, c)
				}
			}
		}
	}
}
