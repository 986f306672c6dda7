package sched

import (
	"provost/api"
	"provost/place"
)

// What is here does valid commands. A thing is a value, which is put back only once nothing can fail any more.

func (s *Sched) setNode(c api.Cmd) api.Errno {
	n, found := s.nodes.get(c.Name)
	if !found {
		if s.nodes.full(api.MaxNodes) {
			return api.ErrMany
		}
		n.name = c.Name
	}
	if !n.resize(c.V) {
		return api.ErrUsed
	}
	s.nodes.put(n.name, n)
	return api.OK
}

func (s *Sched) setTenant(c api.Cmd) api.Errno {
	t, found := s.tenants.get(c.Name)
	if !found {
		if s.tenants.full(api.MaxTenants) {
			return api.ErrMany
		}
		t.name = c.Name
	}
	if !t.resize(c.V) {
		return api.ErrQuota
	}
	s.tenants.put(t.name, t)
	return api.OK
}

func (s *Sched) drain(c api.Cmd) api.Errno {
	n, found := s.nodes.get(c.Name)
	if !found {
		return api.ErrNone
	}
	n.drained = c.N == 1
	s.nodes.put(n.name, n)
	return api.OK
}

func (s *Sched) drop(c api.Cmd) api.Errno {
	n, found := s.nodes.get(c.Name)
	if !found {
		return api.ErrNone
	}
	if n.jobs > 0 {
		return api.ErrUsed
	}
	s.nodes.remove(n.name)
	return api.OK
}

func (s *Sched) submit(c api.Cmd) api.Reply {
	if errno := s.refusal(c); errno != api.OK {
		return api.Reply{E: errno}
	}
	n, found := s.choose(c.V)
	if !found {
		return api.Reply{E: api.ErrRoom}
	}
	s.create(c, n)
	return api.Reply{S: n.name}
}

// refusal tells why the job that c submits may not be, on whatever node, or OK.
func (s *Sched) refusal(c api.Cmd) api.Errno {
	if _, found := s.jobs.get(c.Name); found {
		return api.ErrTwice
	}
	if s.jobs.full(api.MaxJobs) {
		return api.ErrMany
	}
	t, found := s.tenants.get(c.Of)
	if !found {
		return api.ErrNone
	}
	return t.refusal(c.V)
}

// choose returns the node for a job of the demand v, and whether there is one. The nodes go by their keys, so that
// how they are spelt decides nothing.
func (s *Sched) choose(v api.Vec) (node, bool) {
	l := s.nodes.byName()
	var rows []api.Node
	for _, n := range l {
		row := n.row()
		row.Name = keyOf(n.name)
		rows = append(rows, row)
	}
	k, errno := place.Choose(rows, v)
	if errno != api.OK {
		return node{}, false
	}
	return l[k], true
}

// create creates the job that c submits on n, which takes it, as its tenant does.
func (s *Sched) create(c api.Cmd, n node) {
	t, _ := s.tenants.get(c.Of)
	t.take(c.V)
	n.take(c.V)
	s.tenants.put(t.name, t)
	s.nodes.put(n.name, n)
	s.jobs.put(c.Name, api.Job{Name: c.Name, Tenant: t.name, V: c.V, Node: n.name, Status: api.JobPlaced})
}

func (s *Sched) kill(c api.Cmd) api.Reply {
	j, found := s.jobs.get(c.Name)
	if !found {
		return api.Reply{E: api.ErrNone}
	}
	t, _ := s.tenants.get(j.Tenant)
	n, _ := s.nodes.get(j.Node)
	t.free(j.V)
	n.free(j.V)
	s.tenants.put(t.name, t)
	s.nodes.put(n.name, n)
	s.jobs.remove(j.Name)
	return api.Reply{S: j.Node}
}

func (s *Sched) report(c api.Cmd) api.Errno {
	j, found := s.jobs.get(c.Name)
	if !found || keyOf(j.Node) != keyOf(c.Of) {
		return api.ErrNone
	}
	j.Status = c.N
	s.jobs.put(j.Name, j)
	return api.OK
}
