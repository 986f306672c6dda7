package vec

import (
	"math/bits"

	"provost/api"
)

// total is an exact sum of Vecs: for each resource a number of 128 bits in two's complement, in two halves. A Vec
// moves the high half by at most 1, so that no number of Vecs that there can be takes it past its end.
type total struct {
	high, low api.Vec
}

// add adds v.
func (t *total) add(v api.Vec) {
	for i := range api.Resources {
		low, carry := bits.Add64(uint64(t.low[i]), uint64(v[i]), 0)
		t.low[i] = int64(low)
		t.high[i] += sign(v[i]) + int64(carry)
	}
}

// take takes v away. It is no addition of the opposite, because the lowest number has none.
func (t *total) take(v api.Vec) {
	for i := range api.Resources {
		low, borrow := bits.Sub64(uint64(t.low[i]), uint64(v[i]), 0)
		t.low[i] = int64(low)
		t.high[i] -= sign(v[i]) + int64(borrow)
	}
}

// vec returns the total, or ErrOver if it fits in no Vec, that is, if the high half says more than the low half's sign.
func (t *total) vec() (api.Vec, api.Errno) {
	var signs api.Vec
	for i := range api.Resources {
		signs[i] = sign(t.low[i])
	}
	if t.high != signs {
		return api.Vec{}, api.ErrOver
	}
	return t.low, api.OK
}

// sign returns the high half of n: -1 if n is below 0, and 0 otherwise.
func sign(n int64) int64 { return n >> 63 }
