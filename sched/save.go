package sched

import (
	"provost/api"
	"provost/cmd"
	"provost/item"
	"provost/place"
	"provost/wire"
)

// Save returns the encoding of all nodes, tenants and jobs. Even at the limits they are far from those of an item.
func (s *Sched) Save() string {
	var nodes, tenants, jobs []api.Item
	for _, n := range s.Nodes() {
		drained := item.Number(0)
		if n.Drain {
			drained = item.Number(1)
		}
		nodes = append(nodes, item.List(item.Text(n.Name), item.Vec(n.Cap), drained))
	}
	for _, t := range s.Tenants() {
		tenants = append(tenants, item.List(item.Text(t.Name), item.Vec(t.Quota)))
	}
	for _, j := range s.Jobs() {
		jobs = append(jobs, item.List(item.Text(j.Name), item.Text(j.Tenant), item.Vec(j.V), item.Text(j.Node), item.Number(j.Status)))
	}
	text, _ := item.Encode(item.List(nodes...), item.List(tenants...), item.List(jobs...))
	return text
}

// Load returns the Sched for which Save returns text, or ErrForm if there is none. There is only one text for a
// Sched: whatever is wrong with the form, the order or the spelling makes the bytes differ.
func Load(text string) (*Sched, api.Errno) {
	i, errno := wire.Decode([]byte(text))
	if errno != api.OK {
		return nil, api.ErrForm
	}
	s := New()
	if !s.restore(i) || s.Save() != text {
		return nil, api.ErrForm
	}
	return s, api.OK
}

// restore creates what i lists, and tells whether commands could do so. Nodes are drained last, because a drained
// one takes no jobs.
func (s *Sched) restore(i api.Item) bool {
	nodes := item.Part(i, 0).L
	for _, n := range nodes {
		if !s.done(api.Cmd{Op: api.CmdNode, Name: item.Part(n, 0).S, V: item.VecOf(item.Part(n, 1))}) {
			return false
		}
	}
	for _, t := range item.Part(i, 1).L {
		if !s.done(api.Cmd{Op: api.CmdTenant, Name: item.Part(t, 0).S, V: item.VecOf(item.Part(t, 1))}) {
			return false
		}
	}
	for _, j := range item.Part(i, 2).L {
		if !s.restoreJob(j) {
			return false
		}
	}
	for _, n := range nodes {
		if !s.done(api.Cmd{Op: api.CmdDrain, Name: item.Part(n, 0).S, N: item.Part(n, 2).N}) {
			return false
		}
	}
	return true
}

// restoreJob creates the job that i tells on its node: any that takes it could once have been the only one to do so.
func (s *Sched) restoreJob(i api.Item) bool {
	c := api.Cmd{Op: api.CmdSubmit, Name: item.Part(i, 0).S, Of: item.Part(i, 1).S, V: item.VecOf(item.Part(i, 2))}
	on, status := item.Part(i, 3).S, item.Part(i, 4).N
	n, found := s.nodes.get(on)
	if !found || !cmd.May(c) || s.refusal(c) != api.OK || !place.Takes(n.row(), c.V) {
		return false
	}
	s.create(c, n)
	return status == api.JobPlaced || s.done(api.Cmd{Op: api.CmdReport, Name: c.Name, Of: on, N: status})
}

// done does a command, and tells whether it could be done.
func (s *Sched) done(c api.Cmd) bool { return s.Do(c).E == api.OK }
