package cmd

import (
	"provost/api"
	"provost/wire"
)

func number(n int64) api.Item { return api.Item{Kind: api.Number, N: n} }

func text(s string) api.Item { return api.Item{Kind: api.Text, S: s} }

func list(parts ...api.Item) api.Item { return api.Item{Kind: api.List, L: parts} }

// amounts returns the list of the numbers of v.
func amounts(v api.Vec) api.Item {
	var l []api.Item
	for _, n := range v {
		l = append(l, number(n))
	}
	return list(l...)
}

// encoding returns the encoding of a list.
func encoding(parts ...api.Item) (string, api.Errno) {
	b, errno := wire.Encode(list(parts...))
	return string(b), errno
}
