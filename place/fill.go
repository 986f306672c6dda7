package place

import (
	"provost/api"
	"provost/vec"
)

// noScore is told of a node that doesn't take a demand: every score is above it.
const noScore = -1

// filled returns what n would use with v, and whether n takes v. A sum that is no Vec is more than any Cap.
func filled(n api.Node, v api.Vec) (api.Vec, bool) {
	if n.Drain || !vec.May(v) || !May(n) {
		return api.Vec{}, false
	}
	used, errno := vec.Add(n.Used, v)
	if errno != api.OK || !vec.Fits(used, n.Cap) {
		return api.Vec{}, false
	}
	return used, true
}
