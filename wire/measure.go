package wire

import (
	"math/bits"

	"provost/api"
)

// tally is what a walk through an item has found so far.
type tally struct {
	items int
	bytes int
	bad   bool // some item is of no valid form
}

// measure returns the length of the encoding of i, or the error for which i has none.
func measure(i api.Item) (int, api.Errno) {
	var t tally
	if !t.add(i, 1) {
		return 0, api.ErrMany
	}
	if t.bad {
		return 0, api.ErrForm
	}
	return t.bytes, api.OK
}

// add counts i and all that is below it, whatever the kinds, and reports whether the limits hold. A bad form doesn't
// end the walk, because ErrMany goes ahead of ErrForm; a limit does, because lists that share their elements may
// stand for more items than could ever be walked through.
func (t *tally) add(i api.Item, depth int) bool {
	t.items++
	if t.items > api.MaxItems || depth > api.MaxDepth || i.Kind == api.Text && len(i.S) > api.MaxText {
		return false
	}
	t.weigh(meaning(i))
	for _, e := range i.L {
		if !t.add(e, depth+1) {
			return false
		}
	}
	return true
}

// weigh adds the bytes of the item that means m, without those of its elements.
func (t *tally) weigh(m any) {
	if n, ok := m.(int64); ok {
		t.bytes += 1 + countSize(fold(n))
	} else if s, ok := m.(string); ok {
		t.bytes += 1 + countSize(uint64(len(s))) + len(s)
	} else if l, ok := m.([]api.Item); ok {
		t.bytes += 1 + countSize(uint64(len(l)))
	} else {
		t.bad = true
	}
}

// countSize returns the length of the encoding of the count n.
func countSize(n uint64) int { return 1 + digits(n) }

// digits returns how many bytes n has in big-endian order without leading zero bytes.
func digits(n uint64) int { return (bits.Len64(n) + 7) / 8 }
