// Package item makes the items as which the layers above wire encode what they have, and tells the parts of those that they decode.
package item

import (
	"provost/api"
	"provost/wire"
)

// Number returns the item of n.
func Number(n int64) api.Item { return api.Item{Kind: api.Number, N: n} }

// Text returns the item of s.
func Text(s string) api.Item { return api.Item{Kind: api.Text, S: s} }

// List returns the item of a list.
func List(parts ...api.Item) api.Item { return api.Item{Kind: api.List, L: parts} }

// Vec returns the list of the numbers of v.
func Vec(v api.Vec) api.Item {
	var l []api.Item
	for _, n := range v {
		l = append(l, Number(n))
	}
	return List(l...)
}

// Encode returns the encoding of a list.
func Encode(parts ...api.Item) (string, api.Errno) {
	b, errno := wire.Encode(List(parts...))
	return string(b), errno
}
