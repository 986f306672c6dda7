package sched

import (
	"provost/api"
	"provost/vec"
)

// room is what a node or a tenant has for jobs: how much at most, how much of it is used, and by how many of them.
// They may demand nothing, so that what is used doesn't tell whether there are any.
type room struct {
	most, used api.Vec
	jobs       int64
}

// resize makes most the greatest amount, unless more is used.
func (r *room) resize(most api.Vec) bool {
	if !vec.Fits(r.used, most) {
		return false
	}
	r.most = most
	return true
}

// take gives a job room. There is enough of it, so that the sum can't fail.
func (r *room) take(v api.Vec) {
	r.used, _ = vec.Add(r.used, v)
	r.jobs++
}

// free takes back the room of a job.
func (r *room) free(v api.Vec) {
	r.used, _ = vec.Sub(r.used, v)
	r.jobs--
}

// node is a node that jobs are on.
type node struct {
	name string
	room
	drained bool
}

// row returns n as callers see it.
func (n node) row() api.Node {
	return api.Node{Name: n.name, Cap: n.most, Used: n.used, Drain: n.drained}
}

// tenant is a tenant that has jobs.
type tenant struct {
	name string
	room
}

// refusal tells why t may not have a job of the demand v, or OK.
func (t tenant) refusal(v api.Vec) api.Errno {
	used, errno := vec.Add(t.used, v)
	if errno == api.OK && !vec.Fits(used, t.most) {
		return api.ErrQuota
	}
	return errno
}

// row returns t as callers see it.
func (t tenant) row() api.Tenant {
	return api.Tenant{Name: t.name, Quota: t.most, Used: t.used}
}
