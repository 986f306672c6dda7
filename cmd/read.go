package cmd

import (
	"provost/api"
	"provost/wire"
)

// must gives up reading unless what is read is as it has to be. It panics, so that no part has to be asked whether
// those ahead of it could be read; the exported functions recover.
func must(fits bool) {
	if !fits {
		panic(api.ErrForm)
	}
}

// commandOf returns the valid command whose encoding is s, and panics if there is none. An item has only one
// encoding, so that the parts alone have to be looked at.
func commandOf(s string) api.Cmd {
	l := elementsOf(itemOf(s), 5)
	c := api.Cmd{Op: intOf(l[0]), Name: textOf(l[1]), Of: textOf(l[2]), V: vecOf(l[3]), N: numberOf(l[4])}
	must(May(c))
	return c
}

// replyOf returns the reply whose encoding is s, and panics if there is none.
func replyOf(s string) api.Reply {
	l := elementsOf(itemOf(s), 4)
	r := api.Reply{E: api.Errno(intOf(l[0])), S: textOf(l[1]), V: vecOf(l[2]), N: numberOf(l[3])}
	must(mayReply(r))
	return r
}

// itemOf returns the item whose encoding is s.
func itemOf(s string) api.Item {
	i, errno := wire.Decode([]byte(s))
	must(errno == api.OK)
	return i
}

// elementsOf asserts that i is a list of n elements.
func elementsOf(i api.Item, n int) []api.Item {
	must(i.Kind == api.List && len(i.L) == n)
	return i.L
}

// numberOf asserts that i is a number.
func numberOf(i api.Item) int64 {
	must(i.Kind == api.Number)
	return i.N
}

// intOf asserts that i is a number which an int holds: one that it can't hold must not pass for another.
func intOf(i api.Item) int {
	n := numberOf(i)
	must(int64(int(n)) == n)
	return int(n)
}

// textOf asserts that i is a text.
func textOf(i api.Item) string {
	must(i.Kind == api.Text)
	return i.S
}

// vecOf asserts that i is a list of a Vec's numbers.
func vecOf(i api.Item) api.Vec {
	var v api.Vec
	for k, e := range elementsOf(i, api.Resources) {
		v[k] = numberOf(e)
	}
	return v
}
