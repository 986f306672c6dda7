package conf_test

import (
	"math/rand"
	"slices"
	"testing"

	"provost/conf"
)

// P15.2: ordinary numbers, of odd and of even sets, whose members aren't always the first replicas.
func TestReached(t *testing.T) {
	for _, c := range []struct {
		m     int64
		match []int64
		want  int64
	}{
		{0b1, []int64{5}, 5},
		{0b1, []int64{5, 9, 9}, 5},
		{0b10, []int64{5, 9, 7}, 9},
		{0b11, []int64{5, 9}, 5},
		{0b11, []int64{9, 5}, 5},
		{0b111, []int64{9, 7, 5}, 7},
		{0b111, []int64{7, 7, 5}, 7},
		{0b111, []int64{7, 5, 5}, 5},
		{0b111, []int64{4, 4, 4}, 4},
		{0b1111, []int64{1, 2, 3, 4}, 2},
		{0b11111, []int64{5, 1, 4, 2, 3}, 3},
		{0b111111, []int64{6, 1, 5, 2, 4, 3}, 3},
		{0b1111111, []int64{7, 1, 6, 2, 5, 3, 4}, 4},
		{0b1010100, []int64{100, 100, 3, 100, 1, 100, 2}, 2},
		{0b1000000, []int64{1, 2, 3, 4, 5, 6, 7}, 7},
		{0b111, []int64{top, top, 0}, top},
		{0b111, []int64{top, top - 1, 0}, top - 1},
		{0b111, []int64{1 << 62, 1<<62 - 1, 1<<62 + 1}, 1 << 62},
		{0b111, []int64{1<<32 + 1, 1 << 32, 2}, 1 << 32},
	} {
		if got := conf.Reached(c.m, c.match); got != c.want {
			t.Errorf("%b, %d: %d, not %d", c.m, c.match, got, c.want)
		}
	}
}

// P15.2: replicas beyond the end of match have 0; what match has beyond the replicas doesn't count.
func TestReachedBeyondTheEnd(t *testing.T) {
	for _, c := range []struct {
		m     int64
		match []int64
		want  int64
	}{
		{0b1, nil, 0}, {0b111, nil, 0}, {0b1111111, []int64{}, 0},
		{0b111, []int64{5}, 0}, {0b111, []int64{5, 9}, 5}, {0b1000000, []int64{5, 5, 5, 5, 5, 5}, 0},
		{0b111, []int64{-5, -5}, 0}, {0b11111, []int64{-5, 5, 4, 3}, 3}, {0b1111111, []int64{3, 4, 5, 6}, 3},
		{0b1000000, []int64{5, 5, 5, 5, 5, 5, 6, 9, 9, 9}, 6}, {0b1111111, []int64{1, 1, 1, 1, 0, 0, 0, 9, 9, 9, 9, 9, 9, 9, 9}, 1},
	} {
		if got := conf.Reached(c.m, c.match); got != c.want {
			t.Errorf("%b, %d: %d, not %d", c.m, c.match, got, c.want)
		}
	}
	long := slices.Repeat([]int64{9}, 1<<16)
	copy(long, []int64{1, 3, 2})
	if got := conf.Reached(0b111, long); got != 2 {
		t.Errorf("long: %d", got)
	}
}

// P15.2: a number below 0 is told as 0.
func TestReachedBelowZero(t *testing.T) {
	for _, match := range [][]int64{{-1, -1, -1}, {-1, -2, 9}, {bottom, bottom, top}, {0, -1, -1}, {-1, 0, 9}, {bottom, bottom, bottom}} {
		if got := conf.Reached(0b111, match); got != 0 {
			t.Errorf("%d: %d", match, got)
		}
	}
	if got := conf.Reached(0b111, []int64{bottom, 1, top}); got != 1 {
		t.Errorf("above 0: %d", got)
	}
}

// P15.2: what isn't a valid set has reached nothing.
func TestReachedByWrongSets(t *testing.T) {
	for _, m := range wrong() {
		for _, match := range [][]int64{nil, {5}, {5, 5, 5, 5, 5, 5, 5}, slices.Repeat([]int64{top}, 64), slices.Repeat([]int64{-1}, 64)} {
			if got := conf.Reached(m, match); got != 0 {
				t.Errorf("%b, %d: %d", m, match, got)
			}
		}
	}
}

// P15.2: each set, with each row of a few numbers, of each length.
func TestReachedBySmallRows(t *testing.T) {
	var rows func(match []int64)
	rows = func(match []int64) {
		for m := int64(1); m <= most; m++ {
			if got, want := conf.Reached(m, match), reached(m, match); got != want {
				t.Fatalf("%b, %d: %d, not %d", m, match, got, want)
			}
		}
		if len(match) < replicas {
			for n := int64(-1); n <= 1; n++ {
				rows(append(match, n))
			}
		}
	}
	rows(nil)
}

// P15.2: each set, with rows of any numbers; and what the number says of majorities.
func TestReachedByAnyRows(t *testing.T) {
	r := rand.New(rand.NewSource(2))
	far := []int64{bottom, bottom + 1, -1, 0, 1, 1 << 32, 1 << 62, top - 1, top}
	for range 5000 {
		match := make([]int64, r.Intn(10))
		for i := range match {
			match[i] = r.Int63n(12) - 3
			if r.Intn(5) == 0 {
				match[i] = far[r.Intn(len(far))]
			}
		}
		kept := slices.Clone(match)
		for m := int64(1); m <= most; m++ {
			got := conf.Reached(m, match)
			if want := reached(m, match); got != want {
				t.Fatalf("%b, %d: %d, not %d", m, match, got, want)
			}
			if got > 0 && !conf.Most(m, having(match, got)) || got < top && conf.Most(m, having(match, got+1)) {
				t.Fatalf("%b, %d: %d isn't what a majority has", m, match, got)
			}
		}
		if !slices.Equal(match, kept) {
			t.Fatalf("%d has become %d", kept, match)
		}
	}
}

// having is the set of the replicas that have at least n, which is above 0.
func having(match []int64, n int64) int64 {
	var l []int
	for i, x := range match {
		if x >= n {
			l = append(l, i)
		}
	}
	return setOf(l...)
}

// R3: a part of a longer row is taken alone, and the row stays as it is.
func TestPartOfARow(t *testing.T) {
	match := []int64{9, 3, 8, 7, 7, 7, 7}
	kept := slices.Clone(match)
	if got := conf.Reached(0b111, match[:2]); got != 3 {
		t.Errorf("of two: %d", got)
	}
	if got := conf.Reached(0b1111, match[:3]); got != 3 {
		t.Errorf("of three: %d", got)
	}
	if !slices.Equal(match, kept) {
		t.Errorf("%d has become %d", kept, match)
	}
}
