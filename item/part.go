package item

import "provost/api"

// What is read by these functions is zero where it isn't there or is of another kind. Who has to tell that apart
// encodes again what was read: an item has only one encoding, so that the bytes differ.

// Part returns the element k of a list, or an item of no kind if there is none.
func Part(i api.Item, k int) api.Item {
	if k < 0 || k >= len(i.L) {
		return api.Item{}
	}
	return i.L[k]
}

// VecOf returns the Vec whose numbers a list begins with.
func VecOf(i api.Item) api.Vec {
	var v api.Vec
	for k := range v {
		v[k] = Part(i, k).N
	}
	return v
}
