package state_test

import (
	"encoding/hex"
	"fmt"
	"math"
	"math/rand"
	"strings"
	"testing"

	"provost/api"
	"provost/item"
	"provost/state"
)

// P13.1: what the data of an order looks like, byte by byte.
func TestOrderBytes(t *testing.T) {
	for _, c := range []struct {
		o      api.Order
		digits string
	}{
		{api.Order{}, ""},
		{register(), "030105 010102 0100 0100 0100 0200"},
		{api.Order{Kind: api.OrderRegister, N: 300}, "030105 010102 0100 0100 01020258 0200"},
		{do(1, 2, kill("a")), "030105 010104 010102 010104 0100 020117 030105 01010c 02010161 0200 030103 0100 0100 0100 0100"},
		{do(end, 1, query(api.CmdSpent, "ä")), "030105 010104 01088000000000000000 010102 0100 020118 030105 010114 020102c3a4 0200 030103 0100 0100 0100 0100"},
		{expire(0), "030105 010106 0100 0100 0100 0200"},
		{expire(end), "030105 010106 0100 0100 01088000000000000000 0200"},
		{conf(1), "030105 010108 0100 0100 010102 0200"},
		{conf(127), "030105 010108 0100 0100 0101fe 0200"},
		{report("a", "b", api.JobFailed), "030105 01010a 0100 0100 0100 02011a 030105 01010e 02010161 02010162 030103 0100 0100 0100 010104"},
	} {
		b, err := hex.DecodeString(strings.ReplaceAll(c.digits, " ", ""))
		if err != nil {
			t.Fatal(err)
		}
		want := string(b)
		if s, e := state.Encode(c.o); s != want || e != api.OK {
			t.Errorf("%+v: %x, %d, not %x", c.o, s, e, want)
		}
		if o, e := state.Decode(want); o != c.o || e != api.OK {
			t.Errorf("%s: %+v, %d", c.digits, o, e)
		}
	}
}

// checkEncode encodes an order, and checks what comes of it by the second account.
func checkEncode(t *testing.T, o api.Order) string {
	t.Helper()
	s, e := state.Encode(o)
	if !valid(o) {
		if s != "" || e != api.ErrForm {
			t.Errorf("%+v: %x, %d", o, s, e)
		}
		if back, e := state.Decode(written(o)); e == api.OK {
			t.Errorf("%+v: its bytes are %+v's", o, back)
		}
		return ""
	}
	want := written(o)
	if o.Kind == api.OrderNone {
		want = ""
	}
	if s != want || e != api.OK {
		t.Errorf("%+v: %x, %d, not %x", o, s, e, want)
	}
	if back, e := state.Decode(s); back != o || e != api.OK {
		t.Errorf("%+v: read as %+v, %d", o, back, e)
	}
	return s
}

// commands are some of all Ops, valid ones and others.
func commands() []api.Cmd {
	return []api.Cmd{
		{}, node("a", 4), node("B", 0, 1, math.MaxInt64), node("a b", 4), node("a", -1), {Op: api.CmdDrain, Name: "a", N: 1}, {Op: api.CmdDrain, Name: "a", N: 2},
		{Op: api.CmdDrop, Name: "a"}, tenant("t", 1), submit("j", "t", 2), submit("j", "", 2), kill("j"), {Op: api.CmdKill, Name: "j", N: 1}, {Op: api.CmdKill},
		tell("j", "a", api.JobRunning), tell("j", "a", api.JobFailed), tell("j", "a", api.JobPlaced), tell("j", "a", 3), tell("j", "", 1), tell("", "a", 1),
		{Op: api.CmdReport, Name: "j", Of: "a", N: 1, V: api.Vec{1}}, query(api.CmdJob, "j"), query(api.CmdUsed, "a"), query(api.CmdSpent, "t"), {Op: 11, Name: "a"}, {Name: "a"},
		submit(strings.Repeat("😀", 24), strings.Repeat("ä", 24), math.MaxInt64, math.MaxInt64, math.MaxInt64), {Op: api.CmdKill, Name: strings.Repeat("a", 25)},
	}
}

// P13.1: every kind of order, valid and not, with every field at the edges of what it may be.
func TestOrders(t *testing.T) {
	numbers := []int64{math.MinInt64, -1, 0, 1, 2, 126, 127, 128, 255, 256, end - 1, end, end + 1, math.MaxInt64}
	ids := []int64{-1, 0, 1, 127, end, end + 1}
	seen := map[string]api.Order{}
	count := 0
	for _, kind := range []int{math.MinInt64, -1, 0, 1, 2, 3, 4, 5, 6, 7, 256, 258, math.MaxInt64} {
		for _, c := range commands() {
			for _, n := range numbers {
				for _, id := range ids {
					for _, seq := range ids {
						o := api.Order{Kind: kind, ID: id, Seq: seq, N: n, C: c}
						s := checkEncode(t, o)
						if !valid(o) {
							continue
						}
						count++
						if other, twice := seen[s]; twice {
							t.Fatalf("%+v and %+v have the same data", o, other)
						}
						seen[s] = o
					}
				}
			}
		}
	}
	if want := 1 + 10 + 3*3*13 + 10 + 4 + 2; count != want {
		t.Errorf("%d are valid, not %d", count, want)
	}
}

// P13.1: a field that an order doesn't have must be zero, whichever it is.
func TestOtherFields(t *testing.T) {
	for _, o := range []api.Order{{}, register(), do(1, 1, kill("a")), expire(3), conf(7), report("j", "a", 1)} {
		if checkEncode(t, o); !valid(o) {
			t.Errorf("%+v isn't valid", o)
		}
		for what, other := range map[string]api.Order{
			"ID": {ID: 1}, "Seq": {Seq: 1}, "N": {N: 1}, "C.Op": {C: api.Cmd{Op: 6}}, "C.Name": {C: api.Cmd{Name: "a"}}, "C.Of": {C: api.Cmd{Of: "a"}}, "C.N": {C: api.Cmd{N: 1}}, "C.V": {C: api.Cmd{V: api.Vec{0, 0, 1}}},
		} {
			x := o
			x.ID, x.Seq, x.N = o.ID+other.ID, o.Seq+other.Seq, o.N+other.N
			x.C.Op, x.C.Name, x.C.Of, x.C.N, x.C.V[2] = o.C.Op+other.C.Op, o.C.Name+other.C.Name, o.C.Of+other.C.Of, o.C.N+other.C.N, o.C.V[2]+other.C.V[2]
			if checkEncode(t, x); o.Kind == api.OrderNone && valid(x) {
				t.Errorf("%s: OrderNone has no fields", what)
			}
		}
	}
}

// checkDecode reads data, and checks what comes of it by the second account.
func checkDecode(t *testing.T, data string) bool {
	t.Helper()
	want, may := orderIn(data)
	o, e := state.Decode(data)
	if !may {
		if o != (api.Order{}) || e != api.ErrForm {
			t.Errorf("%.200x: %+v, %d", data, o, e)
		}
		return false
	}
	if o != want || e != api.OK {
		t.Errorf("%.200x: %+v, %d, not %+v", data, o, e, want)
	}
	if s, e := state.Encode(o); s != data || e != api.OK {
		t.Errorf("%.200x: encoded as %.200x, %d", data, s, e)
	}
	return true
}

// some are orders of all kinds but OrderNone.
func some() []api.Order {
	return []api.Order{register(), {Kind: api.OrderRegister, N: end}, do(1, 1, kill("a")), do(3, 300, submit("J", "ä", 1, 2, 3)), expire(4), conf(7), report("j", "a", 2)}
}

// P13.1: items of another form are no order's data.
func TestOtherForms(t *testing.T) {
	count := 0
	for _, o := range some() {
		base := itemIn(data(t, o))
		for _, s := range others(base, item.Number(2), item.Number(3), item.Number(5), item.Number(-1), item.Number(end+1), itemIn(written(do(1, 1, kill("a"))))) {
			if checkDecode(t, s) {
				count++
			}
		}
		for k := range base.L {
			for _, c := range commands() {
				i := copied(base)
				i.L[k] = item.Text(commandText(c))
				checkDecode(t, encoded(i))
				if c != (api.Cmd{}) {
					i.L[k] = itemIn(commandText(c))
					checkDecode(t, encoded(i))
				}
			}
		}
	}
	if count < len(some())*5 || count > len(some())*20 {
		t.Errorf("%d are read: too few or too many", count)
	}
}

// P13.1: the data of an order with a byte turned, one more or one less, or cut short.
func TestChangedBytes(t *testing.T) {
	for _, o := range append(some(), api.Order{}) {
		s := data(t, o)
		count := 0
		for _, x := range turned(s) {
			if checkDecode(t, x) {
				count++
			}
		}
		if count < len(s) {
			t.Errorf("%+v: only %d are read", o, count)
		}
		if checkDecode(t, s+s) && s != "" || s != "" && checkDecode(t, s+"\x00") {
			t.Errorf("%+v: there is more behind it", o)
		}
	}
}

// P13.1: what is written otherwise than an item has to be, and what is far from any order.
func TestStrangeData(t *testing.T) {
	for what, s := range map[string]string{
		"OrderNone as an item": written(api.Order{}), "a word": "order", "zero": "\x00", "zeros": strings.Repeat("\x00", 40), "ones": strings.Repeat("\xff", 40),
		"an empty list": "\x03\x00", "a number": "\x01\x00", "a text": "\x02\x00", "a reply": packed(api.Reply{}), "a command": commandText(kill("a")), "a State": state.New().Save(),
		"a zero as a byte": "\x03\x01\x05\x01\x01\x02\x01\x00\x01\x00\x01\x01\x00\x02\x00", "a long number": "\x03\x01\x05\x01\x02\x00\x02\x01\x00\x01\x00\x01\x00\x02\x00",
		"a long count": "\x03\x02\x00\x05\x01\x01\x02\x01\x00\x01\x00\x01\x00\x02\x00", "a long count of a text": "\x03\x01\x05\x01\x01\x02\x01\x00\x01\x00\x01\x00\x02\x01\x00",
		"a long list": "\x03\x08" + strings.Repeat("\xff", 8), "lists": strings.Repeat("\x03\x01\x01", 1<<16), "a megabyte": strings.Repeat("\x03", 1<<20),
		"too long a text": "\x03\x01\x05\x01\x01\x04\x01\x01\x02\x01\x01\x02\x01\x00\x02\x02\x10\x01" + strings.Repeat("a", api.MaxText+1),
		"a full text":     encoded(row5(2, 1, 1, 0, strings.Repeat("a", api.MaxText))), "a command twice": encoded(row5(2, 1, 1, 0, commandText(kill("a"))+commandText(kill("a")))),
		"a command cut short": encoded(row5(2, 1, 1, 0, commandText(kill("a"))[1:])), "no command": encoded(row5(2, 1, 1, 0, "")), "no report": encoded(row5(5, 0, 0, 0, "")),
		"another report": encoded(row5(5, 0, 0, 0, commandText(kill("a")))), "a command to register": encoded(row5(1, 0, 0, 0, commandText(kill("a")))), "a zero command": encoded(row5(2, 1, 1, 0, encoded(itemOfZero()))),
		"a zero command to expire": encoded(row5(3, 0, 0, 0, encoded(itemOfZero()))), "a space": encoded(row5(4, 0, 0, 7, " ")),
	} {
		if checkDecode(t, s) {
			t.Errorf("%s is read", what)
		}
	}
}

// itemOfZero is the item of the zero command, which is not valid.
func itemOfZero() api.Item {
	return item.List(item.Number(0), item.Text(""), item.Text(""), item.Vec(api.Vec{}), item.Number(0))
}

// P13.1: orders put together without a rule.
func TestOrdersWithoutRule(t *testing.T) {
	r := rand.New(rand.NewSource(13))
	l := commands()
	number := func() int64 {
		return []int64{0, 0, 0, 1, int64(r.Intn(300)) - 50, int64(r.Uint64()) >> r.Intn(64)}[r.Intn(6)]
	}
	seen := [6]int{}
	for range 100000 {
		o := api.Order{Kind: r.Intn(8) - 1, ID: number(), Seq: number(), N: number()}
		if r.Intn(2) == 0 {
			o.C = l[r.Intn(len(l))]
		}
		checkEncode(t, o)
		if valid(o) {
			seen[o.Kind]++
		}
		checkDecode(t, written(o))
	}
	for kind, n := range seen {
		if n < 50 {
			t.Error(fmt.Sprint("kind ", kind, ": only ", n, " are valid"))
		}
	}
}
