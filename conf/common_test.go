package conf_test

import (
	"math/rand"
	"testing"

	"provost/conf"
)

// majorities are, by sets, the sets of members alone that are majorities.
func majorities() [most + 1][]int64 {
	var l [most + 1][]int64
	for m := range l {
		for v := range int64(m + 1) {
			if v&^int64(m) == 0 && conf.Most(int64(m), v) {
				l[m] = append(l[m], v)
			}
		}
	}
	return l
}

// P15.3: majorities of the same set, or of sets near each other, have a member in common.
func TestMajoritiesHaveACommonMember(t *testing.T) {
	pairs, all := 0, majorities()
	for a := int64(1); a <= most; a++ {
		for b := int64(1); b <= most; b++ {
			if a != b && !conf.Near(a, b) {
				continue
			}
			for _, v := range all[a] {
				for _, w := range all[b] {
					pairs++
					if v&w == 0 {
						t.Errorf("%b of %b, and %b of %b", v, a, w, b)
					}
				}
			}
		}
	}
	// Sets of 1 to 7 members have 1, 1, 4, 5, 16, 22 and 64 majorities: 14323 pairs of them are of the same set.
	if pairs != 14323+2*36302 {
		t.Errorf("%d pairs", pairs)
	}
}

// P15.3: of sets that differ in more than one member, some don't: what Near asks for isn't too much.
func TestMajoritiesOfOthersHaveNone(t *testing.T) {
	apart, all := 0, majorities()
	for a := int64(1); a <= most; a++ {
		for b := int64(1); b <= most; b++ {
			if conf.Near(a, b) {
				continue
			}
			for _, v := range all[a] {
				for _, w := range all[b] {
					if v&w == 0 {
						apart++
					}
				}
			}
		}
	}
	if apart == 0 {
		t.Error("all majorities have members in common")
	}
}

// P15.3: what a majority of one set has reached, somebody in each majority of a near set has too.
func TestReachedIsSeenByNearMajorities(t *testing.T) {
	r := rand.New(rand.NewSource(4))
	all := majorities()
	for range 300 {
		match := make([]int64, replicas)
		for i := range match {
			match[i] = r.Int63n(20)
		}
		for a := int64(1); a <= most; a++ {
			n := conf.Reached(a, match)
			for i := -1; i < replicas; i++ {
				b := a
				if i >= 0 {
					b ^= 1 << i
				}
				for _, v := range all[b] {
					if n > 0 && v&having(match, n) == 0 {
						t.Fatalf("%d, which %b has reached of %d, nobody has in %b of %b", n, a, match, v, b)
					}
				}
			}
		}
	}
}
