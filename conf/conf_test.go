package conf_test

import (
	"math/rand"
	"slices"
	"testing"

	"provost/conf"
)

// The chapter's examples.
func TestExamples(t *testing.T) {
	if !conf.Most(0b111, 0b11) || conf.Most(0b111, 0b1001) || conf.Most(0b1111, 0b11) {
		t.Error("Most")
	}
	if n := conf.Reached(0b111, []int64{5, 9, 7}); n != 7 {
		t.Errorf("Reached by 0b111: %d", n)
	}
	if n := conf.Reached(0b11, []int64{5}); n != 0 {
		t.Errorf("Reached by 0b11: %d", n)
	}
	if !conf.Near(0b111, 0b110) || conf.Near(0b1, 0) || conf.Near(3, 5) {
		t.Error("Near")
	}
}

// P15.1: the numbers from 1 to 127 are valid sets, and no others.
func TestMay(t *testing.T) {
	for m := int64(1); m <= most; m++ {
		if !conf.May(m) {
			t.Errorf("%d may not be", m)
		}
	}
	for _, m := range wrong() {
		if conf.May(m) {
			t.Errorf("%d may be", m)
		}
	}
}

// P15.1: the members in increasing order.
func TestList(t *testing.T) {
	for m, want := range map[int64][]int{
		1: {0}, 2: {1}, 3: {0, 1}, 5: {0, 2}, 7: {0, 1, 2}, 8: {3}, 64: {6}, 65: {0, 6}, 0b1010101: {0, 2, 4, 6}, 126: {1, 2, 3, 4, 5, 6}, 127: {0, 1, 2, 3, 4, 5, 6},
	} {
		if got := conf.List(m); !slices.Equal(got, want) {
			t.Errorf("%d: %d, not %d", m, got, want)
		}
	}
	for m := int64(1); m <= most; m++ {
		if got := conf.List(m); !slices.Equal(got, members(m)) || setOf(got...) != m {
			t.Errorf("%d: %d, not %d", m, got, members(m))
		}
	}
}

// P15.1: what isn't a valid set has no members, whatever its lowest bits are.
func TestListOfWrongSets(t *testing.T) {
	for _, m := range wrong() {
		if got := conf.List(m); len(got) > 0 {
			t.Errorf("%d: %d", m, got)
		}
	}
}

// beside are bits that are no replicas'.
func beside() []int64 {
	return []int64{0, 1 << 7, 1 << 8, 1<<7 | 1<<8 | 1<<9, 1 << 31, 1 << 32, 0b1111111 << 32, 1 << 62, bottom, -1 << 7}
}

// P15.1: more than half of the members, of each set, by each set of votes, with bits beside the replicas and without.
func TestMost(t *testing.T) {
	for m := int64(1); m <= most; m++ {
		for v := range int64(most + 1) {
			want := isMost(m, bitsOf(v))
			for _, b := range beside() {
				if conf.Most(m, v|b) != want {
					t.Errorf("%b by %b: not %t", m, v|b, want)
				}
			}
		}
	}
}

// P15.1: how many votes are a majority, by the number of members: half of them are none.
func TestHowManyAreMost(t *testing.T) {
	for n, least := range []int{0, 1, 2, 2, 3, 3, 4, 4} {
		for m := int64(1); m <= most; m++ {
			if len(members(m)) != n {
				continue
			}
			for votes := range n + 1 {
				v := setOf(members(m)[n-votes:]...)
				if conf.Most(m, v) != (votes >= least) {
					t.Errorf("%d of %d members, %b by %b: not %t", votes, n, m, v, votes >= least)
				}
			}
		}
	}
}

// P15.1: votes of replicas that are no members don't count, however many there are.
func TestVotesOfOthers(t *testing.T) {
	for m := int64(1); m <= most; m++ {
		if conf.Most(m, 0) || conf.Most(m, ^m) || conf.Most(m, most-m) {
			t.Errorf("%b: a majority without members", m)
		}
		if !conf.Most(m, m) || !conf.Most(m, -1) || !conf.Most(m, most) {
			t.Errorf("%b: all members are no majority", m)
		}
	}
}

// P15.1: what isn't a valid set has no majority, also where its lowest bits have one.
func TestMostOfWrongSets(t *testing.T) {
	for _, m := range wrong() {
		for _, v := range []int64{bottom, -1, 0, 1, 3, 7, most, most + 1, top, m, ^m, m & most} {
			if conf.Most(m, v) {
				t.Errorf("%b: a majority by %b", m, v)
			}
		}
	}
}

// P15.1: two valid sets are near each other if they differ in one member, and no set is near itself.
func TestNear(t *testing.T) {
	near := 0
	for a := int64(1); a <= most; a++ {
		for b := int64(1); b <= most; b++ {
			differ := 0
			for i := range replicas {
				if slices.Contains(members(a), i) != slices.Contains(members(b), i) {
					differ++
				}
			}
			if conf.Near(a, b) != (differ == 1) {
				t.Errorf("%b, %b, which differ in %d: %t", a, b, differ, conf.Near(a, b))
			}
			if differ == 1 {
				near++
			}
		}
	}
	// Each of 128 sets has 7 near ones; the empty one isn't valid, and is missing among the near ones of 7.
	if near != 128*7-14 {
		t.Errorf("%d pairs", near)
	}
}

// P15.1: what isn't a valid set is near none, on either side, also where both differ in one bit.
func TestNearWrongSets(t *testing.T) {
	for _, m := range wrong() {
		others := []int64{bottom, -1, 0, 1, 3, most, most + 1, top, m, m & most}
		for i := range 64 {
			others = append(others, m^1<<i)
		}
		for _, b := range others {
			if conf.Near(m, b) || conf.Near(b, m) {
				t.Errorf("%b and %b are near", m, b)
			}
		}
	}
}

// R3, R4 and R5: what is written into a list changes no later answer.
func TestListIsTheCallers(t *testing.T) {
	r := rand.New(rand.NewSource(15))
	for range 1000 {
		m := 1 + r.Int63n(most)
		l, other := conf.List(m), conf.List(m)
		for k := range l {
			l[k] = -1
		}
		if !slices.Equal(other, members(m)) || !slices.Equal(conf.List(m), members(m)) {
			t.Errorf("%b: %d", m, other)
		}
	}
}
