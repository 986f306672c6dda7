package sched

import (
	"slices"

	"provost/name"
)

// things are the things of one kind, in a map by the keys of their names. The zero value has none.
type things[T any] struct {
	keyed map[string]T
}

// keyOf returns the key of a name. What is no name has the empty key, which no thing has.
func keyOf(named string) string {
	key, _ := name.Key(named)
	return key
}

// get returns the thing of a name, and whether there is one.
func (t *things[T]) get(named string) (T, bool) {
	thing, found := t.keyed[keyOf(named)]
	return thing, found
}

// put stores a thing in place of any other of that name.
func (t *things[T]) put(named string, thing T) {
	if t.keyed == nil {
		t.keyed = map[string]T{}
	}
	t.keyed[keyOf(named)] = thing
}

// remove removes the thing of a name.
func (t *things[T]) remove(named string) { delete(t.keyed, keyOf(named)) }

// full tells whether there are as many things as there may be.
func (t *things[T]) full(most int) bool { return len(t.keyed) >= most }

// byName returns the things in the order of their keys.
func (t *things[T]) byName() []T {
	var keys []string
	for key := range t.keyed {
		keys = append(keys, key)
	}
	slices.SortFunc(keys, compareKeys)
	var l []T
	for _, key := range keys {
		l = append(l, t.keyed[key])
	}
	return l
}

// compareKeys tells the order of keys. Of two that differ one is always less.
func compareKeys(a, b string) int {
	switch {
	case a == b:
		return 0
	case name.Less(a, b):
		return -1
	}
	return 1
}
