package vec

import (
	"math/bits"

	"provost/api"
)

// whole is the share of an amount in itself.
const whole = 1000

// least returns the lower of a and b, component by component.
func least(a, b api.Vec) api.Vec {
	for i := range api.Resources {
		a[i] = min(a[i], b[i])
	}
	return a
}

// share returns the share of a in b, for amounts that aren't below 0. The product may need more than 64 bits; the
// quotient is at most whole, because a is at most b where it is reckoned.
func share(a, b int64) int64 {
	if a > b {
		return whole
	}
	if b == 0 {
		return 0
	}
	high, low := bits.Mul64(whole, uint64(a))
	quotient, _ := bits.Div64(high, low, uint64(b))
	return int64(quotient)
}
