package state_test

import (
	"encoding/hex"
	"fmt"
	"strings"
	"testing"

	"provost/api"
	"provost/item"
	"provost/sched"
	"provost/session"
	"provost/state"
)

// P13.3: what is saved, byte by byte: what both parts save, as they save it.
func TestSavedBytes(t *testing.T) {
	p := newPlay(t, "bytes")
	for _, c := range []struct {
		o      api.Order
		digits string
	}{
		{api.Order{}, "030102 030103 0300 0300 0300 030103 010102 010102 0300"},
		{register(), "030102 030103 0300 0300 0300 030103 010104 010104 030101 030104 010102 0100 010104 020112 030104 0100 0200 030103 0100 0100 0100 0100"},
		{do(1, 1, node("A", 2)), "030102 030103 030101 030103 02010141 030103 010104 0100 0100 0100 0300 0300 030103 010106 010104 030101 030104 010102 010102 010106 020112 030104 0100 0200 030103 0100 0100 0100 0100"},
		{expire(0), "030102 030103 030101 030103 02010141 030103 010104 0100 0100 0100 0300 0300 030103 010108 010104 0300"},
	} {
		p.apply(data(t, c.o))
		want, err := hex.DecodeString(strings.ReplaceAll(c.digits, " ", ""))
		if err != nil {
			t.Fatal(err)
		}
		if got := p.s.Save(); got != string(want) {
			t.Errorf("%+v: %x, not %x", c.o, got, want)
		}
	}
}

// sample is a State with something of everything.
func sample(t *testing.T) *play {
	t.Helper()
	p := newPlay(t, "sample")
	p.run(step{register(), api.Reply{N: 1}}, step{register(), api.Reply{N: 2}}, step{register(), api.Reply{N: 3}})
	p.run(step{do(1, 1, node("a", 4, 4)), api.Reply{}}, step{do(1, 2, tenant("t", 3, 3)), api.Reply{}}, step{do(1, 3, submit("j", "T", 2, 1)), api.Reply{S: "a"}}, step{report("j", "a", 2), api.Reply{}})
	p.run(step{do(2, 1, kill("k")), api.Reply{E: api.ErrNone}}, step{expire(6), api.Reply{N: 1}}, step{register(), api.Reply{N: 4}})
	return p
}

// checkLoad loads a text, and checks what comes of it by the second account.
func checkLoad(t *testing.T, what, text string) bool {
	t.Helper()
	a, may := loadable(text)
	s, e := state.Load(text)
	if !may {
		if s != nil || e != api.ErrForm {
			t.Errorf("%s: %.400x is loaded: %d", what, text, e)
		}
		return false
	}
	if s == nil || e != api.OK {
		t.Errorf("%s: %.400x is not loaded: %d", what, text, e)
		return true
	}
	if got := s.Save(); got != text {
		t.Errorf("%s: %.400x is saved as %.400x", what, text, got)
	}
	same(t, what, s, a)
	return true
}

// refused checks that a text is not loaded.
func refused(t *testing.T, what, text string) {
	t.Helper()
	if checkLoad(t, what, text) {
		t.Errorf("%s: it may be loaded", what)
	}
}

// P13.3: what was saved is loaded, and is as it was.
func TestLoad(t *testing.T) {
	for _, p := range []*play{newPlay(t, "new"), sample(t)} {
		if !checkLoad(t, p.what, p.s.Save()) {
			t.Errorf("%s isn't loaded", p.what)
		}
	}
}

// P13.3: both parts go by themselves: any that are saved may come together, and none is loaded without the other.
func TestLoadParts(t *testing.T) {
	whole := itemIn(sample(t).s.Save())
	clusters := map[string]string{"empty": sched.New().Save(), "sample": encoded(whole.L[0]), "none": "\x02\x00", "bad": encoded(item.List(whole.L[0].L[1], whole.L[0].L[0], whole.L[0].L[2]))}
	tables := map[string]string{"empty": session.Empty().Save(), "sample": encoded(whole.L[1]), "none": "\x02\x00", "bad": encoded(item.List(item.Number(-1), item.Number(1), item.List()))}
	for one, c := range clusters {
		for other, s := range tables {
			may := one != "none" && one != "bad" && other != "none" && other != "bad"
			if got := checkLoad(t, one+" with "+other, "\x03\x01\x02"+c+s); got != may {
				t.Errorf("%s with %s: %t", one, other, got)
			}
			refused(t, "three parts", "\x03\x01\x03"+c+s+c)
			refused(t, "three parts", "\x03\x01\x03"+c+s+s)
			refused(t, "four parts", "\x03\x01\x04"+c+s+c+s)
			refused(t, "the other way round", "\x03\x01\x02"+s+c)
			refused(t, "no list", c+s)
			refused(t, "in a list", "\x03\x01\x01\x03\x01\x02"+c+s)
			refused(t, "texts", encoded(item.List(item.Text(c), item.Text(s))))
			refused(t, "a long count", "\x03\x02\x00\x02"+c+s)
		}
		refused(t, "one part", "\x03\x01\x01"+c)
		refused(t, "a part alone", c)
	}
	for _, s := range tables {
		refused(t, "one part", "\x03\x01\x01"+s)
		refused(t, "a part alone", s)
	}
}

// P13.3: texts that are no item's, and items that are no State's.
func TestLoadStrange(t *testing.T) {
	text := sample(t).s.Save()
	for what, s := range map[string]string{
		"nothing": "", "a word": "state", "a number": "\x01\x00", "a text": "\x02\x00", "an empty list": "\x03\x00", "zeros": strings.Repeat("\x00", 50), "ones": strings.Repeat("\xff", 50),
		"lists cut short": strings.Repeat("\x03\x01\x02", 1<<16), "a list of 2^64 - 1": "\x03\x08" + strings.Repeat("\xff", 8), "a megabyte": strings.Repeat("\x03", 1<<20),
		"twice": text + text, "an item behind": text + "\x03\x00", "text and more": text + strings.Repeat("a", 1<<20), "two empty lists": "\x03\x01\x02\x03\x00\x03\x00", "two texts": "\x03\x01\x02\x02\x00\x02\x00", "two numbers": "\x03\x01\x02\x01\x00\x01\x00",
		"an order": written(do(1, 1, kill("a"))), "two of many items": "\x03\x01\x02" + strings.Repeat("\x03\x02\x08\x00"+strings.Repeat("\x01\x00", 1<<11), 2), "too many items": "\x03\x01\x02\x03\x02\x20\x00" + strings.Repeat("\x01\x00", 1<<13) + "\x03\x00",
	} {
		refused(t, what, s)
	}
}

// P13.3: a saved State with any part of its item replaced, left out or doubled is loaded just where both parts are.
func TestLoadOtherForms(t *testing.T) {
	p := sample(t)
	count := 0
	for k, s := range others(itemIn(p.s.Save())) {
		if checkLoad(t, fmt.Sprint("other ", k), s) {
			count++
		}
	}
	if count < 20 || count > 200 {
		t.Errorf("%d are loaded: too few or too many", count)
	}
}

// P13.3: likewise with a byte turned, one more or one less, and cut short.
func TestLoadChangedBytes(t *testing.T) {
	text := sample(t).s.Save()
	count := 0
	for k, s := range turned(text) {
		if checkLoad(t, fmt.Sprint("changed ", k), s) {
			count++
		}
	}
	if count < len(text)+100 {
		t.Errorf("only %d are loaded", count)
	}
}

// long is a name of as many runes as there may be, of as many bytes as they may have.
func long(n int) string { return fmt.Sprint(strings.Repeat("😀", 21), n+100) }

// full is a State with as much of everything as there may be.
func full(t *testing.T) *play {
	t.Helper()
	p := newPlay(t, "full")
	for n := range mostSessions {
		p.run(step{register(), api.Reply{N: int64(n + 1)}})
	}
	for n := range 32 {
		id := int64(n + 1)
		p.run(step{do(id, 1, node(long(n), end, end, end)), api.Reply{}}, step{do(id, 2, tenant(long(n), end, end, end)), api.Reply{}})
	}
	for n := range 128 {
		c := submit(long(n), long(n%32), 1<<50, 1<<50, 1<<50)
		p.a.apply(data(t, do(int64(n%32+1), int64(n/32+3), c)))
		if r := p.s.Apply(data(t, do(int64(n%32+1), int64(n/32+3), c))); r.E != api.OK {
			t.Fatal(n, r)
		}
	}
	return p
}

// P13.3: a State with as much of everything as there may be is saved and loaded, also with the longest replies.
func TestLoadFull(t *testing.T) {
	p := full(t)
	p.run(step{register(), api.Reply{E: api.ErrMany}}, step{do(1, 7, node(long(32))), api.Reply{E: api.ErrMany}}, step{do(2, 7, tenant(long(32))), api.Reply{E: api.ErrMany}}, step{do(3, 7, submit(long(128), long(0))), api.Reply{E: api.ErrMany}})
	if !checkLoad(t, "full", p.s.Save()) {
		t.Error("it isn't loaded")
	}
	for k := range p.a.rows {
		p.a.rows[k].reply = api.Reply{E: 255, S: strings.Repeat("a", 1000), V: api.Vec{-1 << 63, -1 << 63, -1 << 63}, N: -1 << 63}
	}
	if !checkLoad(t, "full, with long replies", p.a.save()) {
		t.Error("it isn't loaded")
	}
}
