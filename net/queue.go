package net

import "provost/api"

// isPlace tells whether i is the number of an endpoint.
func isPlace(i int) bool { return i >= 0 && i < api.MaxPlaces }

// has tells whether there is a message k, in a nil Net too.
func (n *Net) has(k int) bool { return n != nil && k >= 0 && k < len(n.queue) }

// put puts a message whose endpoints may be at the end of the queue.
func (n *Net) put(l api.Letter) api.Errno {
	if n == nil || len(n.queue) >= api.MaxNet {
		return api.ErrFull
	}
	n.queue = append(n.queue, l)
	return api.OK
}

// remove removes message k, which is there, by writing those after it over it. The place that becomes free at the end
// is emptied, because it would keep the last message's body.
func (n *Net) remove(k int) {
	copy(n.queue[k:], n.queue[k+1:])
	last := len(n.queue) - 1
	n.queue[last] = api.Letter{}
	n.queue = n.queue[:last]
}
