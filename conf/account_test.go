package conf_test

import (
	"math"
	"slices"
	"testing"

	"provost/api"
	"provost/state"
)

// The limits, by number: the tests reach and pass them.
const (
	replicas = 7
	most     = 127 // the set of all replicas
)

const (
	top    = math.MaxInt64
	bottom = math.MinInt64
)

// bitsOf is the second account of a set: the numbers of its bits, found by halving the number in two's complement.
func bitsOf(n int64) []int {
	var l []int
	for u, i := uint64(n), 0; u > 0; u, i = u/2, i+1 {
		if u%2 > 0 {
			l = append(l, i)
		}
	}
	return l
}

// setOf is the number of a set of replicas.
func setOf(l ...int) int64 {
	n := int64(0)
	for _, i := range l {
		n += int64(math.Pow(2, float64(i)))
	}
	return n
}

// members are the members of m, of which there are none if m isn't valid: if it has none, or others than replicas.
func members(m int64) []int {
	l := bitsOf(m)
	if len(l) > 0 && slices.Max(l) >= replicas {
		return nil
	}
	return l
}

// isMost tells whether so many members vote: one more than the half of them, rounded down.
func isMost(m int64, votes []int) bool {
	voters := 0
	for _, i := range members(m) {
		if slices.Contains(votes, i) {
			voters++
		}
	}
	return voters >= len(members(m))/2+1
}

// reached is the second account of Reached: of all numbers that somebody has, and 0, the greatest one that a majority
// has.
func reached(m int64, match []int64) int64 {
	n := int64(0)
	for _, x := range match {
		var has []int
		for _, i := range members(m) {
			if i < len(match) && match[i] >= x || i >= len(match) && x <= 0 {
				has = append(has, i)
			}
		}
		if len(members(m)) > 0 && isMost(m, has) {
			n = max(n, x)
		}
	}
	return n
}

// wrong are numbers that are no valid sets: too low, too great, or with a valid set in their lowest bits alone.
func wrong() []int64 {
	l := []int64{bottom, bottom + 1, bottom + 7, -1 << 32, -128, -127, -2, -1, 0, 128, 129, 255, 256, 1<<8 + 7, 1 << 31, 1<<31 + 1, 1 << 32, 1<<32 + 7, 1<<32 + 127, 1 << 62, 1<<62 + 3, top - 1, top}
	for n := range int64(300) {
		l = append(l, -n, most+1+n)
	}
	return l
}

// data is the data of an order that has one.
func data(t *testing.T, o api.Order) string {
	t.Helper()
	s, e := state.Encode(o)
	if e != api.OK {
		t.Fatalf("%+v: %d", o, e)
	}
	return s
}

// stated is the data of the OrderConf that states m.
func stated(t *testing.T, m int64) string {
	t.Helper()
	return data(t, api.Order{Kind: api.OrderConf, N: m})
}
