package session_test

import (
	"encoding/hex"
	"fmt"
	"math"
	"slices"
	"strings"
	"testing"

	"provost/api"
	"provost/item"
	"provost/session"
)

// sample is a table with sessions that have ended, with one that has executed nothing, and with replies of all kinds.
func sample(t *testing.T) *play {
	t.Helper()
	p := newPlay(t, "sample")
	p.run("register: 1; tick; register: 2; register: 3; tick; tick; done 2 1 300; expire 3: 1; register: 4; tick; register: 5; register: 6")
	for k, r := range []api.Reply{{E: api.ErrQuota}, {S: "n0", V: api.Vec{1, 2, 3}, N: 2}, {S: strings.Repeat("\xff", 1000), N: math.MinInt64}} {
		p.do(call{word: "done", id: 5, seq: int64(k + 1), r: r})
	}
	p.run("done 6 1; tick; expire 4: 1; tick")
	return p
}

// P12.4: what is saved, byte by byte.
func TestSavedBytes(t *testing.T) {
	for _, c := range []struct{ script, digits string }{
		{"expire 0: 0", "030103 0100 010102 0300"},
		{"tick", "030103 010102 010102 0300"},
		{"register: 1", "030103 0100 010104 030101 030104 010102 0100 0100 020112 030104 0100 0200 030103010001000100 0100"},
		{"register: 1; expire 0: 1", "030103 0100 010104 0300"},
		{"register: 1; tick; done 1 1 5; done 1 2; done 1 3 5; tick", "030103 010104 010104 030101 030104 010102 010106 010102 020113 030104 0100 0200 030103010001000100 01010a"},
	} {
		b, err := hex.DecodeString(strings.ReplaceAll(c.digits, " ", ""))
		if err != nil {
			t.Fatal(err)
		}
		want := string(b)
		p := newPlay(t, c.script)
		p.run(c.script)
		if got := p.s.Save(); got != want {
			t.Errorf("%s: %x, not %x", c.script, got, want)
		}
	}
}

// checkLoad loads a text, and checks what comes of it by the second account.
func checkLoad(t *testing.T, what, text string) bool {
	t.Helper()
	a, may := loadable(text)
	s, e := session.Load(text)
	if !may {
		if s != nil || e != api.ErrForm {
			t.Errorf("%s: %.400x is loaded: %d", what, text, e)
		}
		return false
	}
	if s == nil || e != api.OK {
		t.Errorf("%s: %.400x is not loaded: %d", what, text, e)
		return true
	}
	same(t, what, s, a)
	if got := s.Save(); got != text {
		t.Errorf("%s: %.400x is saved as %.400x", what, text, got)
	}
	for _, r := range a.rows {
		for _, c := range [][2]int64{{r.id, r.seq - 1}, {r.id, r.seq}, {r.id, r.seq + 1}, {r.id, r.seq + 2}, {r.id - 1, 1}, {r.id + 1, 1}} {
			v, got := s.Check(c[0], c[1])
			if wantVerdict, want := a.Check(c[0], c[1]); v != wantVerdict || got != want {
				t.Errorf("%s: %d: %d, %.200s, not %d, %.200s", what, c, v, show(got), wantVerdict, show(want))
			}
		}
	}
	return true
}

// loaded checks that an item is loaded.
func loaded(t *testing.T, what string, i api.Item) {
	t.Helper()
	if !checkLoad(t, what, encoded(i)) {
		t.Errorf("%s: it may not be loaded", what)
	}
}

// refused checks that an item is not loaded.
func refused(t *testing.T, what string, i api.Item) {
	t.Helper()
	if checkLoad(t, what, encoded(i)) {
		t.Errorf("%s: it may be loaded", what)
	}
}

// tableItem is the item of a table.
func tableItem(clock, next int64, rows ...api.Item) api.Item {
	return item.List(item.Number(clock), item.Number(next), item.List(rows...))
}

// copied is an item that shares nothing with i.
func copied(i api.Item) api.Item {
	i.L = slices.Clone(i.L)
	for k := range i.L {
		i.L[k] = copied(i.L[k])
	}
	return i
}

// at is the part of an item that is reached by positions.
func at(i *api.Item, path ...int) *api.Item {
	for _, k := range path {
		i = &i.L[k]
	}
	return i
}

// P12.4: what is saved is loaded, and goes on as before.
func TestLoadOrdinary(t *testing.T) {
	for _, script := range []string{
		"tick", "expire 0: 0", "register: 1", "register: 1; expire 0: 1", "register: 1; register: 2; tick; done 1 1 5; tick; expire 2: 1",
		"register: 1; done 1 1", "tick; tick; register: 1; done 1 1 5; done 1 2 6; tick; register: 2; done 2 1 -3",
	} {
		p := newPlay(t, script)
		p.run(script)
		p = loadPlay(t, script, p.s.Save())
		same(t, script, p.s, p.a)
		for _, line := range []string{"tick", "register", "done 1 1 7", "done 1 2 8", "done 1 3 9", "done 2 1 10", "done 2 2 11", "expire 2", "register", "expire 1", "register", "expire 0"} {
			p.do(callOf(line))
			for n := range int64(20) {
				p.do(call{word: "check", id: n / 5, seq: n % 5})
			}
		}
	}
	checkLoad(t, "sample", sample(t).s.Save())
}

// P12.4: each bound of the list, just reached and just passed.
func TestLoadBounds(t *testing.T) {
	zero, five := api.Reply{}, api.Reply{N: 5}
	for what, i := range map[string]api.Item{
		"the least of all":           tableItem(0, 1),
		"the greatest clock":         tableItem(end, 1),
		"the greatest next":          tableItem(0, end+1),
		"the greatest of all":        tableItem(end, end+1, rowItem(end, end, end, five)),
		"the first number":           tableItem(0, 2, rowItem(1, 0, 0, zero)),
		"the last number":            tableItem(0, 9, rowItem(8, 0, 0, zero)),
		"numbers one by one":         tableItem(0, 9, rowItem(6, 0, 0, zero), rowItem(7, 0, 0, zero), rowItem(8, 0, 0, zero)),
		"used at the clock":          tableItem(7, 2, rowItem(1, 1, 7, five)),
		"used ahead of it":           tableItem(7, 2, rowItem(1, 1, 6, five)),
		"used at the end":            tableItem(end, 2, rowItem(1, 1, end, five)),
		"the first seq":              tableItem(0, 2, rowItem(1, 1, 0, five)),
		"the last seq":               tableItem(0, 2, rowItem(1, end, 0, five)),
		"a zero reply behind seq 0":  tableItem(0, 2, rowItem(1, 1, 0, zero)),
		"an error, kept":             tableItem(0, 2, rowItem(1, 1, 0, api.Reply{E: 255})),
		"the later one used earlier": tableItem(7, 3, rowItem(1, 0, 5, zero), rowItem(2, 0, 3, zero)),
		// The chapter's list rules it out nowhere, though in one tick Expire would have ended 1 and 3 with 2.
		"a gap within one tick": tableItem(0, 4, rowItem(1, 0, 0, zero), rowItem(3, 0, 0, zero)),
	} {
		loaded(t, what, i)
	}
	for what, i := range map[string]api.Item{
		"a clock below 0":         tableItem(-1, 1),
		"a clock above the end":   tableItem(end+1, 1),
		"next 0":                  tableItem(0, 0),
		"next below 0":            tableItem(0, -1),
		"next far below 0":        tableItem(0, math.MinInt64),
		"next above the end":      tableItem(0, end+2),
		"next far above it":       tableItem(0, math.MaxInt64),
		"a number 0":              tableItem(0, 2, rowItem(0, 0, 0, zero)),
		"a number below 0":        tableItem(0, 2, rowItem(-1, 0, 0, zero)),
		"the next number":         tableItem(0, 2, rowItem(2, 0, 0, zero)),
		"one behind it":           tableItem(0, 2, rowItem(3, 0, 0, zero)),
		"the end, which is next":  tableItem(0, end, rowItem(end, 0, 0, zero)),
		"a number above the end":  tableItem(0, end+1, rowItem(end+1, 0, 0, zero)),
		"and next above it":       tableItem(0, end+2, rowItem(end+1, 0, 0, zero)),
		"a number twice":          tableItem(0, 9, rowItem(4, 0, 0, zero), rowItem(4, 0, 0, zero)),
		"a number twice, unlike":  tableItem(0, 9, rowItem(4, 0, 0, zero), rowItem(4, 1, 0, five)),
		"a less number behind":    tableItem(0, 9, rowItem(4, 0, 0, zero), rowItem(3, 0, 0, zero)),
		"a less number at last":   tableItem(0, 9, rowItem(4, 0, 0, zero), rowItem(6, 0, 0, zero), rowItem(5, 0, 0, zero)),
		"used behind the clock":   tableItem(7, 2, rowItem(1, 1, 8, five)),
		"used behind clock 0":     tableItem(0, 2, rowItem(1, 0, 1, zero)),
		"used below 0":            tableItem(7, 2, rowItem(1, 1, -1, five)),
		"used above the end":      tableItem(end, 2, rowItem(1, 1, end+1, five)),
		"a seq below 0":           tableItem(0, 2, rowItem(1, -1, 0, zero)),
		"a seq below 0, replied":  tableItem(0, 2, rowItem(1, -1, 0, five)),
		"a seq above the end":     tableItem(0, 2, rowItem(1, end+1, 0, five)),
		"a seq far above it":      tableItem(0, 2, rowItem(1, math.MaxInt64, 0, five)),
		"seq 0 with a number":     tableItem(0, 2, rowItem(1, 0, 0, five)),
		"seq 0 with an error":     tableItem(0, 2, rowItem(1, 0, 0, api.Reply{E: 1})),
		"seq 0 with a text":       tableItem(0, 2, rowItem(1, 0, 0, api.Reply{S: "a"})),
		"seq 0 with a Vec":        tableItem(0, 2, rowItem(1, 0, 0, api.Reply{V: api.Vec{0, 0, 1}})),
		"seq 0, behind good ones": tableItem(0, 9, rowItem(1, 0, 0, zero), rowItem(2, 3, 0, five), rowItem(3, 0, 0, five)),
	} {
		refused(t, what, i)
	}
}

// P12.4: as many sessions as there may be are loaded, whatever is in them, and one more aren't.
func TestLoadMost(t *testing.T) {
	great := api.Reply{E: 255, S: strings.Repeat("a", 1000), V: api.Vec{math.MinInt64, math.MinInt64, math.MinInt64}, N: math.MinInt64}
	for n := range mostSessions + 4 {
		var small, large []api.Item
		for k := range int64(n) {
			small = append(small, rowItem(k+1, 0, 0, api.Reply{}))
			large = append(large, rowItem(end-100+k, end, end, great))
		}
		check := loaded
		if n > mostSessions {
			check = refused
		}
		check(t, fmt.Sprint(n, " small ones"), tableItem(0, end+1, small...))
		check(t, fmt.Sprint(n, " large ones"), tableItem(end, end+1, large...))
	}
}

// P12.4: texts that are no item's.
func TestLoadNoItem(t *testing.T) {
	text := sample(t).s.Save()
	for what, s := range map[string]string{
		"nothing": "", "a word": "session", "zeros": strings.Repeat("\x00", 50), "ones": strings.Repeat("\xff", 50),
		"lists cut short": strings.Repeat("\x03\x01\x01", 1<<16), "a list of 2^64 - 1": "\x03\x08" + strings.Repeat("\xff", 8),
		"twice": text + text, "a byte ahead": "\x03" + text, "an item behind": text + "\x03\x00",
		"a long count": "\x03\x02\x00\x03" + text[3:], "long": strings.Repeat("\x03", 1<<22), "text and more": text + strings.Repeat("a", 1<<20),
		"too many items": "\x03\x02\x20\x00" + strings.Repeat("\x01\x00", 1<<13),
	} {
		if checkLoad(t, what, s) {
			t.Errorf("%s: it may be loaded", what)
		}
	}
}

// P12.4: items of another form.
func TestLoadOtherForms(t *testing.T) {
	base := sample(t).a.item()
	for what, i := range map[string]api.Item{
		"a number": item.Number(5), "a text": item.Text("a"), "its text": item.Text(encoded(base)[:200]), "nothing": item.List(), "in a list": item.List(base),
		"a number alone": item.List(item.Number(0)), "two numbers": item.List(item.Number(0), item.Number(1)), "three numbers": item.List(item.Number(0), item.Number(1), item.Number(0)),
		"sessions ahead": item.List(base.L[2], base.L[0], base.L[1]), "three lists": item.List(item.List(), item.List(), item.List()),
		"the numbers as texts": item.List(item.Text(""), item.Text(""), item.List()), "a row for the rows": item.List(base.L[0], base.L[1], base.L[2].L[0]),
	} {
		refused(t, what, i)
	}
	var walk func(path []int)
	walk = func(path []int) {
		part := *at(&base, path...)
		for k, other := range []api.Item{item.Number(0), item.Number(1), item.Text(""), item.Text("a"), item.List(), item.List(item.Number(0)), item.List(part), item.List(part, part)} {
			what := fmt.Sprint("other ", k, " at ", path)
			i := copied(base)
			*at(&i, path...) = other
			checkLoad(t, what, encoded(i))
			if other.Kind != part.Kind || part.Kind == api.Text || part.Kind == api.List && len(other.L) > 0 {
				refused(t, what, i)
			}
		}
		for k := range part.L {
			i := copied(base)
			at(&i, path...).L = slices.Delete(at(&i, path...).L, k, k+1)
			checkLoad(t, fmt.Sprint("without ", k, " at ", path), encoded(i))
			for _, more := range []api.Item{item.Number(0), item.Number(1), item.Text(""), item.List(), part.L[k]} {
				i = copied(base)
				at(&i, path...).L = slices.Insert(at(&i, path...).L, k, copied(more))
				refused(t, fmt.Sprint("one more at ", path, k), i)
				i = copied(base)
				at(&i, path...).L = append(at(&i, path...).L, copied(more))
				refused(t, fmt.Sprint("one more behind ", path), i)
			}
			walk(append(slices.Clone(path), k))
		}
	}
	walk(nil)
}

// P12.4: numbers that are turned, wherever they are.
func TestLoadNumbers(t *testing.T) {
	for _, base := range []api.Item{
		sample(t).a.item(), tableItem(0, 1), tableItem(end, end+1, rowItem(end-1, end, end, api.Reply{N: 1}), rowItem(end, 0, 0, api.Reply{})),
	} {
		var walk func(path []int)
		walk = func(path []int) {
			part := *at(&base, path...)
			if part.Kind == api.Number {
				for _, n := range numbers(part.N) {
					i := copied(base)
					at(&i, path...).N = n
					checkLoad(t, fmt.Sprint(n, " at ", path), encoded(i))
				}
			}
			for k := range part.L {
				walk(append(slices.Clone(path), k))
			}
		}
		walk(nil)
	}
}

// P12.4: a session's text has to be that of a reply, to the byte.
func TestLoadReplies(t *testing.T) {
	five := packed(api.Reply{N: 5})
	row := func(seq int64, s string) api.Item {
		return tableItem(9, 3, rowItem(1, 1, 5, api.Reply{}), item.List(item.Number(2), item.Number(seq), item.Number(0), item.Text(s)))
	}
	texts := map[string]string{
		"nothing": "", "a word": "reply", "cut short": five[:len(five)-1], "cut in front": five[1:], "a byte more": five + "\x00", "twice": five + five,
		"a long count": "\x03\x02\x00\x04" + five[3:], "a zero as a byte": five[:len(five)-3] + "\x01\x01\x00", "an empty list": "\x03\x00", "a number": "\x01\x00",
		"the longest text": strings.Repeat("a", api.MaxText),
	}
	list := func(parts ...api.Item) string { return encoded(item.List(parts...)) }
	texts["an error below 0"] = list(item.Number(-1), item.Text(""), item.Vec(api.Vec{}), item.Number(0))
	texts["an error above 255"] = list(item.Number(256), item.Text(""), item.Vec(api.Vec{}), item.Number(0))
	texts["a text too long"] = list(item.Number(0), item.Text(strings.Repeat("a", 1001)), item.Vec(api.Vec{}), item.Number(0))
	texts["a command"] = list(item.Number(1), item.Text("a"), item.Text(""), item.Vec(api.Vec{}), item.Number(0))
	texts["no Vec"] = list(item.Number(0), item.Text(""), item.List(), item.Number(0))
	for what, s := range texts {
		for seq := range int64(3) {
			refused(t, what, row(seq, s))
		}
	}
	for _, r := range []api.Reply{{}, {N: 5}, {E: 255, S: strings.Repeat("a", 1000)}, {V: api.Vec{-1, 0, math.MaxInt64}}} {
		loaded(t, show(r), row(1, packed(r)))
		if r != (api.Reply{}) {
			refused(t, show(r), row(0, packed(r)))
		}
	}
}

// P12.4: the bytes of a saved table with any one of them turned, without it, with one more, and cut short.
func TestLoadChangedBytes(t *testing.T) {
	p := newPlay(t, "small")
	p.run("register: 1; tick; tick; register: 2; done 2 1 300; tick; register: 3; expire 3: 1; tick")
	text := p.s.Save()
	count := 0
	load := func(what string, k, x int, s string) {
		t.Helper()
		if checkLoad(t, fmt.Sprint(what, " ", k, " ", x), s) {
			count++
		}
	}
	for k := range text {
		for x := range 256 {
			load("turned", k, x, text[:k]+string([]byte{byte(x)})+text[k+1:])
			load("more", k, x, text[:k]+string([]byte{byte(x)})+text[k:])
		}
		load("less", k, 0, text[:k]+text[k+1:])
		load("up to", k, 0, text[:k])
		load("from", k+1, 0, text[k+1:])
	}
	for x := range 256 {
		load("behind", len(text), x, text+string([]byte{byte(x)}))
	}
	// Each byte is one of those that may stand there, and clocks, numbers and replies may be others too.
	if count < len(text)+100 {
		t.Errorf("only %d are loaded", count)
	}
}
