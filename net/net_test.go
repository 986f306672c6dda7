package net

import (
	"math"
	"slices"
	"strconv"
	"strings"
	"testing"

	"provost/api"
)

// run plays one line: a call's name in small letters, and its arguments; a send has From, To and the body. It tells
// the message that is taken and the error: nothing if there is neither.
func run(n *Net, line string) string {
	w := append(strings.Fields(line), "", "", "")
	switch w[0] {
	case "send":
		return word(n.Send(api.Letter{From: number(w[1]), To: number(w[2]), Body: w[3]}))
	case "take":
		l, e := n.Take(number(w[1]))
		if e != api.OK && l == (api.Letter{}) {
			return word(e)
		}
		return text(l) + word(e)
	case "copy":
		return word(n.Copy(number(w[1])))
	case "drop":
		return word(n.Drop(number(w[1])))
	case "split":
		n.Split(number(w[1]))
		return ""
	}
	panic("no such call: " + line)
}

func number(s string) int {
	n, err := strconv.Atoi(s)
	if err != nil {
		panic(err)
	}
	return n
}

func word(e api.Errno) string {
	switch e {
	case api.OK:
		return ""
	case api.ErrArg:
		return "Arg"
	case api.ErrNone:
		return "None"
	case api.ErrState:
		return "State"
	case api.ErrFull:
		return "Full"
	}
	return "error " + strconv.Itoa(int(e))
}

func text(l api.Letter) string {
	return strconv.Itoa(l.From) + ">" + strconv.Itoa(l.To) + l.Body
}

// show tells the messages in transit.
func show(n *Net) string {
	var words []string
	for _, l := range n.Way() {
		words = append(words, text(l))
	}
	return strings.Join(words, " ")
}

// story is a script for a new net: the lines, with what they tell, and the messages in transit at last.
type story struct{ text, want string }

// tell plays stories. In a story's text lines are parted by semicolons, and what a line tells follows it and a colon.
func tell(t *testing.T, stories []story) {
	t.Helper()
	for _, s := range stories {
		n := New()
		for _, line := range strings.Split(s.text, ";") {
			call, want, _ := strings.Cut(line, ":")
			if got := run(n, call); got != strings.TrimSpace(want) {
				t.Errorf("%q, at %q: got %q, want %q", s.text, call, got, want)
			}
		}
		if got := show(n); got != s.want {
			t.Errorf("%q: got %q, want %q", s.text, got, s.want)
		}
	}
}

// letters returns so many messages, no two alike, between all kinds of endpoints.
func letters(count int) []api.Letter {
	var l []api.Letter
	for i := range count {
		l = append(l, api.Letter{From: i % api.MaxPlaces, To: i * 7 % api.MaxPlaces, Body: "m" + strconv.Itoa(i)})
	}
	return l
}

// holding returns a net to which messages were sent.
func holding(t *testing.T, l []api.Letter) *Net {
	t.Helper()
	n := New()
	for i := range l {
		if e := n.Send(l[i]); e != api.OK {
			t.Fatalf("%d: %d", i, e)
		}
	}
	expect(t, "sent", n, l)
	return n
}

// expect holds the messages in transit against l.
func expect(t *testing.T, what string, n *Net, l []api.Letter) {
	t.Helper()
	got := n.Way()
	for k := range min(len(got), len(l)) {
		if got[k] != l[k] {
			t.Fatalf("%s: at %d got %.40q, want %.40q", what, k, text(got[k]), text(l[k]))
		}
	}
	if len(got) != len(l) {
		t.Fatalf("%s: got %d messages, want %d", what, len(got), len(l))
	}
}

// without returns l without element k.
func without(l []api.Letter, k int) []api.Letter {
	return append(slices.Clone(l[:k]), l[k+1:]...)
}

// notPlaces are numbers of no endpoint.
func notPlaces() []int {
	return []int{-1, -2, -api.MaxPlaces, math.MinInt32, math.MinInt, api.MaxPlaces, api.MaxPlaces + 1, 64, 1 << 16, math.MaxInt32, math.MaxInt}
}

// notPositions are positions at which a net with so many messages has none.
func notPositions(count int) []int {
	return []int{-1, -2, -count - 1, math.MinInt32, math.MinInt, count, count + 1, api.MaxNet, api.MaxNet + 1, math.MaxInt32, math.MaxInt}
}

// The chapter's examples.
func TestExamples(t *testing.T) {
	tell(t, []story{
		{"send 0 1 a; send 1 0 b; copy 0; take 1: 1>0b; take 1: 0>1a; take 9: None", "0>1a"},
		{"send 0 1 a; send 1 0 b; copy 0; take 1: 1>0b; take 1: 0>1a; take 9: None; split 1; take 0: State", ""},
	})
}

// P8.1: a new net has no messages, and all its endpoints are on side 0.
func TestNew(t *testing.T) {
	n := New()
	if n == nil || len(n.Way()) != 0 {
		t.Fatal("it isn't empty")
	}
	for from := range api.MaxPlaces {
		for to := range api.MaxPlaces {
			l := api.Letter{From: from, To: to, Body: "x"}
			if e := n.Send(l); e != api.OK {
				t.Fatalf("%v: %d", l, e)
			}
			if got, e := n.Take(0); got != l || e != api.OK {
				t.Fatalf("%v: %v, %d", l, got, e)
			}
		}
	}
	expect(t, "all taken", n, nil)
}

// P8.1: messages are in the order in which they were sent, whatever they say and between whom.
func TestSend(t *testing.T) {
	tell(t, []story{
		{"send 0 1 a", "0>1a"},
		{"send 0 1 a; send 0 1 a; send 0 1 a", "0>1a 0>1a 0>1a"},
		{"send 5 2 c; send 0 1 a; send 5 2 b; send 1 0 a", "5>2c 0>1a 5>2b 1>0a"},
		{"send 0 31 a; send 31 0 b; send 31 31 c; send 0 0 d; send 7 7 e", "0>31a 31>0b 31>31c 0>0d 7>7e"},
		{"send 0 0 d; take 0: 0>0d; send 31 31 c; take 0: 31>31c", ""},
	})
	var l []api.Letter
	for _, body := range []string{"", "\x00", "\xff\xfe", "中", strings.Repeat("a", 100000)} {
		l = append(l, api.Letter{From: 3, To: 4, Body: body})
	}
	n := holding(t, l)
	for i := range l {
		if got, e := n.Take(0); got != l[i] || e != api.OK {
			t.Errorf("%d: %d", i, e)
		}
	}
}

// P8.1: an endpoint that there isn't, on either side of a message, goes ahead of a net that is full; nothing changes.
func TestNotPlaces(t *testing.T) {
	for _, count := range []int{0, 1, api.MaxNet} {
		l := letters(count)
		n := holding(t, l)
		for _, bad := range notPlaces() {
			for _, other := range append(notPlaces(), 0, 1, api.MaxPlaces-1) {
				for _, x := range []api.Letter{{From: bad, To: other}, {From: other, To: bad, Body: "x"}} {
					if e := n.Send(x); e != api.ErrArg {
						t.Errorf("%d, %v: got %d", count, x, e)
					}
				}
			}
		}
		expect(t, "not sent", n, l)
	}
}

// P8.1, P8.2: MaxNet messages are in transit and not one more, by Send and by Copy; whatever removes one makes room
// for one.
func TestFull(t *testing.T) {
	all := letters(api.MaxNet)
	more := api.Letter{From: 9, To: 9, Body: "more"}
	isFull := func(n *Net, l []api.Letter) {
		t.Helper()
		if e := n.Send(more); e != api.ErrFull {
			t.Errorf("Send: got %d", e)
		}
		for _, k := range []int{0, 1, api.MaxNet / 2, api.MaxNet - 1} {
			if e := n.Copy(k); e != api.ErrFull {
				t.Errorf("Copy(%d): got %d", k, e)
			}
		}
		for _, k := range notPositions(api.MaxNet) {
			if e := n.Copy(k); e != api.ErrNone {
				t.Errorf("Copy(%d): got %d", k, e)
			}
		}
		expect(t, "full", n, l)
	}
	isFull(holding(t, all), all)
	for _, k := range []int{0, 1, 200, api.MaxNet - 2} {
		n := holding(t, all[:api.MaxNet-1])
		if e := n.Copy(k); e != api.OK {
			t.Errorf("the last one, Copy(%d): %d", k, e)
		}
		isFull(n, append(slices.Clone(all[:api.MaxNet-1]), all[k]))
	}
	// From 3 to 21: of these, only 3 is on side 1.
	for _, call := range []string{"take 35: 3>21m35", "drop 35", "split 8; take 35: State"} {
		n := holding(t, all)
		for _, line := range strings.Split(call, ";") {
			line, want, _ := strings.Cut(line, ":")
			if got := run(n, line); got != strings.TrimSpace(want) {
				t.Errorf("%s: got %q", line, got)
			}
		}
		l := without(all, 35)
		expect(t, call, n, l)
		if e := n.Send(more); e != api.OK {
			t.Errorf("behind %s: %d", call, e)
		}
		isFull(n, append(l, more))
	}
}

// P8.2: each message of queues of several lengths, removed by Take and by Drop, with the others in their order.
func TestRemove(t *testing.T) {
	for _, count := range []int{1, 2, 3, 4, 7, 40, api.MaxNet} {
		l := letters(count)
		for k := range l {
			taken, dropped, lost := holding(t, l), holding(t, l), holding(t, l)
			if got, e := taken.Take(k); got != l[k] || e != api.OK {
				t.Fatalf("Take(%d) of %d: %v, %d", k, count, got, e)
			}
			if e := dropped.Drop(k); e != api.OK {
				t.Fatalf("Drop(%d) of %d: %d", k, count, e)
			}
			lost.Split(1 << l[k].From)
			want := api.ErrState
			if l[k].From == l[k].To {
				want = api.OK
			}
			if _, e := lost.Take(k); e != want {
				t.Fatalf("Take(%d) of %d, on two sides: %d", k, count, e)
			}
			for _, n := range []*Net{taken, dropped, lost} {
				expect(t, "without "+strconv.Itoa(k)+" of "+strconv.Itoa(count), n, without(l, k))
			}
		}
	}
}

// P8.2: messages removed one after the other, in any order, until there is none.
func TestRemoveAll(t *testing.T) {
	tell(t, []story{
		{"send 0 1 a; send 0 2 b; send 0 3 c; take 0: 0>1a; take 0: 0>2b; take 0: 0>3c; take 0: None", ""},
		{"send 0 1 a; send 0 2 b; send 0 3 c; take 2: 0>3c; take 1: 0>2b; take 0: 0>1a; take 0: None", ""},
		{"send 0 1 a; send 0 2 b; send 0 3 c; take 1: 0>2b; take 1: 0>3c; take 1: None; take 0: 0>1a", ""},
		{"send 0 1 a; send 0 2 b; send 0 3 c; drop 1; drop 1; drop 1: None; drop 0; drop 0: None", ""},
		{"send 0 1 a; send 0 2 b; drop 0; send 0 3 c; send 0 4 d; take 1: 0>3c; send 0 5 e", "0>2b 0>4d 0>5e"},
		{"send 0 1 a; take 0: 0>1a; send 0 2 b; take 0: 0>2b; send 0 3 c; drop 0; send 0 4 d", "0>4d"},
	})
}

// P8.2: a copy goes to the end, and the message that is copied stays where it is.
func TestCopy(t *testing.T) {
	tell(t, []story{
		{"send 0 1 a; copy 0", "0>1a 0>1a"},
		{"send 0 1 a; copy 0; copy 1; copy 2; drop 0", "0>1a 0>1a 0>1a"},
		{"send 0 1 a; copy 0; take 0: 0>1a; take 0: 0>1a; take 0: None", ""},
		{"send 0 1 a; copy 0; drop 0; copy 0; take 1: 0>1a", "0>1a"},
		{"send 0 1 a; send 2 3 b; split 1; copy 0; copy 1", "0>1a 2>3b 0>1a 2>3b"},
		{"send 0 1 a; split 1; copy 0; take 0: State; split 0; take 0: 0>1a", ""},
	})
	for _, count := range []int{1, 2, 3, 5, 64, api.MaxNet - 1} {
		l := letters(count)
		for k := range l {
			n := holding(t, l)
			if e := n.Copy(k); e != api.OK {
				t.Fatalf("Copy(%d) of %d: %d", k, count, e)
			}
			expect(t, "copied "+strconv.Itoa(k)+" of "+strconv.Itoa(count), n, append(slices.Clone(l), l[k]))
		}
	}
}

// P8.2: there is no message at a position below 0 or past the end; nothing changes.
func TestNotPositions(t *testing.T) {
	for _, count := range []int{0, 1, 2, 5, api.MaxNet - 1, api.MaxNet} {
		l := letters(count)
		n := holding(t, l)
		for _, sides := range []int{0, 0x55555555, -1} {
			n.Split(sides)
			for _, k := range notPositions(count) {
				if got, e := n.Take(k); got != (api.Letter{}) || e != api.ErrNone {
					t.Errorf("Take(%d) of %d: %v, %d", k, count, got, e)
				}
				if e := n.Copy(k); e != api.ErrNone {
					t.Errorf("Copy(%d) of %d: %d", k, count, e)
				}
				if e := n.Drop(k); e != api.ErrNone {
					t.Errorf("Drop(%d) of %d: %d", k, count, e)
				}
			}
		}
		expect(t, "not there", n, l)
	}
}

// bit returns bit i of s: s halved i times, rounded down, is odd.
func bit(s, i int) int {
	for range i {
		odd := s % 2
		if odd < 0 {
			odd = 1
		}
		s = (s - odd) / 2
	}
	if s%2 == 0 {
		return 0
	}
	return 1
}

// sides are arguments of Split: none, each bit, all but each, and others, with bits at and above MaxPlaces or below 0.
func sides() []int {
	l := []int{0, -1, -2, 3, 0x55555555, -0x55555556, 0xFFFF, 0x7FFFFFFF, math.MaxInt, math.MinInt, math.MinInt + 1, math.MinInt32, math.MinInt32 + 5}
	for i := range strconv.IntSize {
		l = append(l, 1<<i, -1<<i, ^(1 << i))
	}
	return l
}

// P8.2: the side of each endpoint is its bit, of the last Split alone.
func TestSplit(t *testing.T) {
	n := New()
	for _, s := range sides() {
		n.Split(s)
		for from := range api.MaxPlaces {
			for to := range api.MaxPlaces {
				l := api.Letter{From: from, To: to, Body: "x"}
				n.Send(l)
				got, e := n.Take(0)
				if bit(s, from) == bit(s, to) && (got != l || e != api.OK) {
					t.Fatalf("Split(%d), %v: %v, %d", s, l, got, e)
				}
				if bit(s, from) != bit(s, to) && (got != (api.Letter{}) || e != api.ErrState) {
					t.Fatalf("Split(%d), %v: %v, %d", s, l, got, e)
				}
			}
		}
		expect(t, "Split("+strconv.Itoa(s)+")", n, nil)
	}
}

// P8.2: bits at and above MaxPlaces are nobody's.
func TestHighBits(t *testing.T) {
	for _, low := range []int64{0, 1, 0x55555555, 0xFFFFFFFF} {
		for i := api.MaxPlaces; i < strconv.IntSize; i++ {
			n := New()
			n.Split(int(low | 1<<i))
			for place := range api.MaxPlaces {
				n.Send(api.Letter{To: place})
				want := api.OK
				if low>>place&1 != low&1 {
					want = api.ErrState
				}
				if _, e := n.Take(0); e != want {
					t.Errorf("%d with bit %d: to %d: %d", low, i, place, e)
				}
			}
		}
	}
}

// P8.2: what counts is the side at the time of Take; a Split changes no message; only Take asks for sides.
func TestSplitAndQueue(t *testing.T) {
	tell(t, []story{
		{"send 0 1 a; split 1; take 0: State; take 0: None", ""},
		{"split 1; send 0 1 a; take 0: State; take 0: None", ""},
		{"split 1; send 0 1 a; split 0; take 0: 0>1a", ""},
		{"send 0 1 a; split 1; split 0; take 0: 0>1a", ""},
		{"send 0 1 a; split 1; split 3; take 0: 0>1a", ""},
		{"send 0 1 a; split 1; split 2; take 0: State", ""},
		{"send 1 0 a; split 2; split 4; take 0: 1>0a", ""},
		{"send 0 1 a; send 1 2 b; send 2 0 c; split 1", "0>1a 1>2b 2>0c"},
		{"send 0 1 a; send 1 2 b; send 2 0 c; split 1; take 2: State; take 0: State", "1>2b"},
		{"send 0 1 a; send 1 2 b; send 2 0 c; split 1; take 1: 1>2b; take 1: State; take 0: State", ""},
		{"send 0 0 a; split 1; take 0: 0>0a; send 1 1 b; take 0: 1>1b; split -1; send 31 31 c; take 0: 31>31c", ""},
		{"split 1; send 0 1 a; send 0 1 b; drop 0; take 0: State; drop 0: None", ""},
		{"split 1; send 0 1 a; copy 0; copy 1; drop 1; take 1: State", "0>1a"},
		{"split -2147483648; send 0 31 a; send 30 29 b; take 0: State; take 0: 30>29b", ""},
		{"split 4294967296; send 0 31 a; take 0: 0>31a", ""},
		{"split -1; send 0 31 a; take 0: 0>31a", ""},
		{"split -2; send 0 31 a; take 0: State", ""},
	})
}

// R3: what a caller writes into what it sent or was given changes nothing, and what it was given stays as it was.
func TestSharesNothing(t *testing.T) {
	sent := letters(5)
	n := holding(t, sent)
	want := slices.Clone(sent)
	clear(sent)
	expect(t, "behind a write into what was sent", n, want)

	way, other := n.Way(), n.Way()
	clear(way)
	_ = append(way[:2], api.Letter{Body: "x"}, api.Letter{Body: "y"}, api.Letter{Body: "z"}, api.Letter{Body: "q"})
	if !slices.Equal(other, want) {
		t.Errorf("one list changed another: %v", other)
	}
	expect(t, "behind a write into Way's list", n, want)
	_ = append(n.Way(), api.Letter{Body: "x"})
	n.Send(want[0])
	expect(t, "behind a list that grew", n, append(slices.Clone(want), want[0]))

	l, _ := n.Take(1)
	l.Body = "x"
	n.Drop(0)
	n.Copy(0)
	n.Send(l)
	n.Split(-2)
	if !slices.Equal(other, want) {
		t.Errorf("what was given became %v", other)
	}
	body := []byte("abc")
	n = New()
	n.Send(api.Letter{Body: string(body)})
	body[0] = 'X'
	n.Copy(0)
	expect(t, "behind a write into a body", n, []api.Letter{{Body: "abc"}, {Body: "abc"}})
}

// R5: two nets have nothing in common.
func TestTwoNets(t *testing.T) {
	one, other := New(), New()
	run(one, "send 0 1 a")
	run(one, "split 1")
	expect(t, "the other", other, nil)
	run(other, "send 0 1 b")
	if got := run(other, "take 0"); got != "0>1b" {
		t.Errorf("the other: got %q", got)
	}
	if got := run(one, "take 0"); got != "State" {
		t.Errorf("the one: got %q", got)
	}
}

// R1: no call panics, on no net either. A nil one has no messages and takes none, and the zero value is as New makes it.
func TestOddNets(t *testing.T) {
	var none *Net
	for _, c := range []struct{ line, want string }{
		{"split 1", ""}, {"send 0 1 a", "Full"}, {"send 0 32 a", "Arg"}, {"send -1 0 a", "Arg"},
		{"take 0", "None"}, {"copy 0", "None"}, {"drop 0", "None"}, {"take -1", "None"}, {"copy -1", "None"}, {"drop 9", "None"},
	} {
		if got := run(none, c.line); got != c.want {
			t.Errorf("nil, %s: got %q", c.line, got)
		}
		expect(t, "nil, "+c.line, none, nil)
	}
	var zero Net
	for _, c := range []struct{ line, want string }{
		{"take 0", "None"}, {"copy 0", "None"}, {"drop 0", "None"}, {"send 0 1 a", ""}, {"copy 0", ""}, {"take 0", "0>1a"}, {"split 1", ""}, {"take 0", "State"},
	} {
		if got := run(&zero, c.line); got != c.want {
			t.Errorf("zero, %s: got %q", c.line, got)
		}
	}
	expect(t, "zero", &zero, nil)
}

// Rule 8 of the language: of a message that was removed nothing is kept.
func TestKeepsNothing(t *testing.T) {
	n := holding(t, letters(50))
	for i, k := range []int{0, 48, 20, 20, 0, 44, 1} {
		if i%2 == 0 {
			n.Take(k)
		} else {
			n.Drop(k)
		}
		for _, l := range n.queue[len(n.queue):cap(n.queue)] {
			if l != (api.Letter{}) {
				t.Fatalf("behind the end: %v", l)
			}
		}
	}
}
