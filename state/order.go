package state

import (
	"provost/api"
	"provost/cmd"
	"provost/item"
)

// Encode returns the data of o, or ErrForm if o isn't a valid order.
func Encode(o api.Order) (string, api.Errno) {
	if !may(o) {
		return "", api.ErrForm
	}
	if o.Kind == api.OrderNone {
		return "", api.OK
	}
	// An order without a command has the zero one, which isn't valid: its text is the empty one that is asked for.
	command, _ := cmd.Encode(o.C)
	return item.Encode(item.Number(int64(o.Kind)), item.Number(o.ID), item.Number(o.Seq), item.Number(o.N), item.Text(command))
}

// Decode returns the valid order whose data this is, or ErrForm if there is none. An order has only one data: what is
// wrong with the form makes the bytes differ.
func Decode(data string) (api.Order, api.Errno) {
	o := read(data)
	again, errno := Encode(o)
	if errno != api.OK || again != data {
		return api.Order{}, api.ErrForm
	}
	return o, api.OK
}

// read returns the order that data tells, in which all is zero that it doesn't tell.
func read(data string) api.Order {
	i := itemOf(data)
	c, _ := cmd.Decode(item.Part(i, 4).S)
	return api.Order{Kind: int(item.Part(i, 0).N), ID: item.Part(i, 1).N, Seq: item.Part(i, 2).N, N: item.Part(i, 3).N, C: c}
}

// may tells whether o is a valid order.
func may(o api.Order) bool {
	// Held against an order of the fields that count, every other one has to be zero.
	only := api.Order{Kind: o.Kind}
	switch o.Kind {
	case api.OrderNone:
		return o == only
	case api.OrderRegister, api.OrderExpire:
		only.N = o.N
		return o == only && isFrom(0, o.N, api.MaxIndex)
	case api.OrderDo:
		only.ID, only.Seq, only.C = o.ID, o.Seq, o.C
		return o == only && isFrom(1, o.ID, api.MaxIndex) && isFrom(1, o.Seq, api.MaxIndex) && cmd.May(o.C)
	case api.OrderConf:
		only.N = o.N
		return o == only && isFrom(1, o.N, 1<<api.MaxReplicas-1)
	case api.OrderReport:
		only.C = o.C
		return o == only && o.C.Op == api.CmdReport && cmd.May(o.C)
	}
	return false
}

// isFrom tells whether n is from least to most.
func isFrom(least, n, most int64) bool { return least <= n && n <= most }
