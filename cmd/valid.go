package cmd

import (
	"provost/api"
	"provost/name"
	"provost/vec"
)

// What a reply may have at most.
const (
	maxErrno      = 255
	maxReplyBytes = 1000
)

// fieldsFit tells whether the fields behind Name are as Op asks for. A command of no Op has none that are.
func fieldsFit(c api.Cmd) bool {
	// Held against a command of the fields that count, every other one has to be zero.
	only := api.Cmd{Op: c.Op, Name: c.Name}
	switch c.Op {
	case api.CmdNode, api.CmdTenant:
		only.V = c.V
		return c == only && vec.May(c.V)
	case api.CmdDrain:
		only.N = c.N
		return c == only && (c.N == 0 || c.N == 1)
	case api.CmdDrop, api.CmdKill, api.CmdJob, api.CmdUsed, api.CmdSpent:
		return c == only
	case api.CmdSubmit:
		only.Of, only.V = c.Of, c.V
		return c == only && name.May(c.Of) && vec.May(c.V)
	case api.CmdReport:
		only.Of, only.N = c.Of, c.N
		return c == only && name.May(c.Of) && (c.N == api.JobRunning || c.N == api.JobFailed)
	}
	return false
}

// mayReply tells whether r may be packed.
func mayReply(r api.Reply) bool {
	return r.E >= 0 && r.E <= maxErrno && len(r.S) <= maxReplyBytes
}
