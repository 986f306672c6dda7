package conf_test

import (
	"encoding/hex"
	"math/rand"
	"slices"
	"strings"
	"testing"

	"provost/api"
	"provost/conf"
)

// log is a log of these data.
func log(data ...string) []api.Entry {
	var l []api.Entry
	for _, s := range data {
		l = append(l, api.Entry{Term: 1, Data: s})
	}
	return l
}

// bytesOf are the bytes that are told in hexadecimal.
func bytesOf(t *testing.T, digits string) string {
	t.Helper()
	b, err := hex.DecodeString(strings.ReplaceAll(digits, " ", ""))
	if err != nil {
		t.Fatal(err)
	}
	return string(b)
}

// others are the data of orders of all other kinds, some with numbers that would be sets.
func others(t *testing.T) []string {
	node := api.Cmd{Op: api.CmdNode, Name: "a", V: api.Vec{4}}
	return []string{
		"",
		data(t, api.Order{Kind: api.OrderRegister}),
		data(t, api.Order{Kind: api.OrderRegister, N: 3}),
		data(t, api.Order{Kind: api.OrderExpire}),
		data(t, api.Order{Kind: api.OrderExpire, N: 3}),
		data(t, api.Order{Kind: api.OrderDo, ID: 3, Seq: 3, C: node}),
		data(t, api.Order{Kind: api.OrderReport, C: api.Cmd{Op: api.CmdReport, Name: "j", Of: "a", N: 1}}),
	}
}

// broken are data of no order, most of them nearly an OrderConf's.
func broken(t *testing.T) []string {
	whole := stated(t, 3)
	return []string{
		bytesOf(t, "030105 010108 0100 0100 0100 0200"),                 // N 0
		bytesOf(t, "030105 010108 0100 0100 010101 0200"),               // N -1
		bytesOf(t, "030105 010108 0100 0100 01020100 0200"),             // N 128
		bytesOf(t, "030105 010108 0100 0100 01020106 0200"),             // N 131
		bytesOf(t, "030105 010108 0100 0100 01080000000000000006 0200"), // N 3, not in the fewest bytes
		bytesOf(t, "030105 010108 010102 0100 010106 0200"),             // ID 1
		bytesOf(t, "030105 010108 0100 010102 010106 0200"),             // Seq 1
		bytesOf(t, "030105 010108 0100 0100 010106 02010161"),           // a text
		bytesOf(t, "030105 01020208 0100 0100 010106 0200"),             // Kind 260
		bytesOf(t, "030104 010108 0100 0100 010106"),                    // no text
		bytesOf(t, "030106 010108 0100 0100 010106 0200 0200"),          // two texts
		bytesOf(t, "010106"),
		whole + "\x00", whole + whole, whole[1:], whole[:len(whole)-1], "\x00" + whole, whole[:1],
		"x", "3", "\x00", "\x03",
	}
}

// long are data of no order that are very long.
func long(t *testing.T) []string {
	return []string{strings.Repeat("x", 1<<20), strings.Repeat(stated(t, 3), 1<<16)}
}

// P15.2: the data of an OrderConf, by hand.
func TestOfBytes(t *testing.T) {
	for digits, want := range map[string]int64{
		"030105 010108 0100 0100 010102 0200": 1,
		"030105 010108 0100 0100 010106 0200": 3,
		"030105 010108 0100 0100 01017e 0200": 63,
		"030105 010108 0100 0100 0101fe 0200": 127,
	} {
		if got := conf.Of(2, log(bytesOf(t, digits))); got != want {
			t.Errorf("%s: %d, not %d", digits, got, want)
		}
	}
}

// P15.2: each set that an OrderConf can state, alone and at each place among other entries.
func TestOf(t *testing.T) {
	rest := append(others(t), broken(t)...)
	for m := int64(1); m <= most; m++ {
		s := stated(t, m)
		if got := conf.Of(most-m, log(s)); got != m {
			t.Errorf("%d: %d", m, got)
		}
		for k := range len(rest) + 1 {
			if got := conf.Of(most-m, log(slices.Insert(slices.Clone(rest), k, s)...)); got != m {
				t.Errorf("%d at %d: %d", m, k, got)
			}
		}
	}
}

// P15.2: the last one counts, whatever was stated ahead of it, and whatever the terms are.
func TestOfTheLast(t *testing.T) {
	for _, c := range []struct {
		l    []string
		want int64
	}{
		{[]string{stated(t, 3), stated(t, 5)}, 5},
		{[]string{stated(t, 5), stated(t, 3)}, 3},
		{[]string{stated(t, 7), stated(t, 3), stated(t, 7)}, 7},
		{[]string{stated(t, 127), "", stated(t, 1), "", ""}, 1},
		{[]string{stated(t, 1), "x", stated(t, 127), "x", "x"}, 127},
	} {
		l := log(c.l...)
		for _, terms := range [][]int64{{1, 1, 1, 1, 1}, {1, 2, 3, 4, 5}, {5, 4, 3, 2, 1}, {0, 0, 0, 0, 0}, {-1, bottom, top, 0, -1}} {
			for k := range l {
				l[k].Term = terms[k]
			}
			if got := conf.Of(9, l); got != c.want {
				t.Errorf("%x: %d, not %d", c.l, got, c.want)
			}
		}
	}
}

// P15.2: where no entry states members, it is m that is told, also one that isn't a valid set.
func TestOfNone(t *testing.T) {
	rows := [][]api.Entry{nil, {}, log(""), log("", "", ""), log(others(t)...), log(broken(t)...), log(append(others(t), broken(t)...)...), log(long(t)...)}
	for _, s := range append(others(t), append(broken(t), long(t)...)...) {
		rows = append(rows, log(s))
	}
	for _, m := range []int64{1, 2, 3, 7, most, 0, -1, most + 1, bottom, top} {
		for k, l := range rows {
			if got := conf.Of(m, l); got != m {
				t.Errorf("row %d: %d, not %d", k, got, m)
			}
		}
	}
}

// P15.2: logs of any entries; R3: which stay as they are.
func TestOfAnyLogs(t *testing.T) {
	r := rand.New(rand.NewSource(3))
	rest := append(others(t), broken(t)...)
	for range 5000 {
		m := r.Int63n(200) - 30
		want := m
		var l []api.Entry
		for range r.Intn(12) {
			x := api.Entry{Term: r.Int63n(5), Data: rest[r.Intn(len(rest))]}
			if r.Intn(6) == 0 {
				want = 1 + r.Int63n(most)
				x.Data = stated(t, want)
			}
			l = append(l, x)
		}
		kept := slices.Clone(l)
		if got := conf.Of(m, l); got != want {
			t.Fatalf("%d, %x: %d, not %d", m, l, got, want)
		}
		if !slices.Equal(l, kept) {
			t.Fatalf("%x has become %x", kept, l)
		}
	}
}

// R1: a long log is gone through soon, also where the first entry alone states members, and a part of it is taken alone.
func TestOfLongLogs(t *testing.T) {
	l := append(log(stated(t, 9), stated(t, 5)), log(slices.Repeat([]string{others(t)[5]}, 1<<16)...)...)
	if got := conf.Of(1, l); got != 5 {
		t.Errorf("all: %d", got)
	}
	if got := conf.Of(1, l[:1]); got != 9 {
		t.Errorf("one: %d", got)
	}
	if got := conf.Of(1, l[2:]); got != 1 {
		t.Errorf("none: %d", got)
	}
	if got := conf.Of(1, l[:0]); got != 1 {
		t.Errorf("nothing: %d", got)
	}
}
