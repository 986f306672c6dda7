// Package wire encodes items (numbers, texts and lists) as bytes and decodes them: see shared/doc/01-wire.md.
package wire

import "provost/api"

// Encode returns the encoding of i: ErrMany if i is beyond the limits, otherwise ErrForm if it is no valid item.
func Encode(i api.Item) ([]byte, api.Errno) {
	size, errno := measure(i)
	if errno != api.OK {
		return nil, errno
	}
	return appendItem(make([]byte, 0, size), i), api.OK
}

// Decode returns the valid item whose encoding is exactly b, or ErrForm if there is none.
func Decode(b []byte) (i api.Item, errno api.Errno) {
	defer func() {
		if thrown := recover(); thrown != nil {
			i, errno = api.Item{}, errnoOf(thrown)
		}
	}()
	r := reader{rest: b, left: api.MaxItems}
	r.reserve(1)
	i = r.item(1)
	r.end()
	return i, api.OK
}

// Size returns the length of the encoding of i, or 0 if i has none.
func Size(i api.Item) int {
	size, _ := measure(i)
	return size
}
