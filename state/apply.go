package state

import (
	"provost/api"
	"provost/session"
)

// Apply does what the order says whose data this is, and returns the reply. The sessions' clock counts whatever is
// applied, so that it doesn't hang on what an entry says.
func (s *State) Apply(data string) api.Reply {
	p := s.parts()
	p.Tick()
	o, errno := Decode(data)
	if errno != api.OK {
		return api.Reply{E: errno}
	}
	return p.execute(o)
}

// execute does what a valid order says. Who the members are is read from the log, and so OrderConf changes nothing here.
func (p parts) execute(o api.Order) api.Reply {
	switch o.Kind {
	case api.OrderRegister:
		id, errno := p.Register()
		return api.Reply{E: errno, N: id}
	case api.OrderDo:
		return p.once(o)
	case api.OrderExpire:
		return api.Reply{N: p.Expire(o.N)}
	case api.OrderReport:
		return p.Do(o.C)
	}
	return api.Reply{}
}

// once does a session's command, unless it was done already. Done can't fail: the verdict is one of those that it keeps
// a reply to, and whatever sched replies can be packed.
func (p parts) once(o api.Order) api.Reply {
	verdict, reply := p.Check(o.ID, o.Seq)
	if verdict == session.New {
		reply = p.Do(o.C)
	}
	if verdict == session.New || verdict == session.Again {
		p.Done(o.ID, o.Seq, reply)
	}
	return reply
}
