package wal

import (
	"fmt"
	"strings"
	"testing"

	"provost/api"
	"provost/disk"
)

// found is a disk that is opened: what is on it, what the state is then, and which files differ then ("-" says that
// one is gone).
type found struct {
	what  string
	files content
	state string
	after content
}

// tryOpen opens disks and holds what comes against what is wanted.
func tryOpen(t *testing.T, cases []found) {
	t.Helper()
	for _, c := range cases {
		d, want := diskOf(c.files), diskOf(c.files)
		for f, b := range c.after {
			want.Drop(f)
			if b != "-" {
				want.Append(f, []byte(b))
			}
		}
		if len(c.after) == 0 {
			d.Arm(0) // nothing is to be written
		}
		w := open(t, d)
		if got := show(w.State()); got != c.state {
			t.Errorf("%s: got %q, want %q", c.what, got, c.state)
		}
		expectFiles(t, c.what, d, contentOf(want))
		d.Arm(0) // what was mended needs no mending any more
		expectState(t, c.what, w, d, c.state)
	}
}

// one is the content of one file.
func one(file string, b ...[]byte) content { return content{file: string(join(b...))} }

// P7.1: no files, and files that aren't the Wal's.
func TestOpenOfOtherFiles(t *testing.T) {
	other := content{"S0000000001": "x", "s": "x", "s1": "x", "s000000001": "x", "s00000000001": "x", "s0000000000": "x", "s000000001a": "x",
		"s+000000077": "x", "s-000000077": "x", "s000_000_01": "x", "s٠٠٠٠٠": "x", "t0000000001": "x", "s77": "x", "0000000077": "x", "s000000077": "x", "s00000000077": "x", "s77777777777": "x", "vote.old": "x", "Vote": "x", "vote.new.new": "x", "snap.ne": "x", "SNAP": "x"}
	tryOpen(t, []found{
		{"no files", nil, "0 -1 / 0 0  /", nil},
		{"others", other, "0 -1 / 0 0  /", nil},
		{"empty files", content{"vote": "", name(1): "", name(7): ""}, "0 -1 / 0 0  /", nil},
		{"an empty snapshot", content{"snap": ""}, "0 -1 / 0 0  /", content{"snap": "-"}},
		{"both new ones", content{"vote.new": string(rec(3, 3)), "snap.new": string(rec(1, 1, 0))}, "0 -1 / 0 0  /", content{"vote.new": "-", "snap.new": "-"}},
		{"one new one", content{"vote": string(rec(2, 1)), "snap.new": ""}, "2 1 / 0 0  /", content{"snap.new": "-"}},
	})
	w := open(t, diskOf(other))
	expect(t, "Append", w.Append(1, entries(1, "a")), api.OK)
	expectFiles(t, "the first segment", w.disk, func() content { other[name(1)] = string(rec(1, 1, "a")); return other }())
}

// P7.1: a disk that is down isn't read, nor changed.
func TestOpenOfDiskThatIsDown(t *testing.T) {
	d := diskOf(content{"vote": string(rec(1, 1)), "vote.new": "x"})
	d.Arm(0)
	d.Sync("vote")
	before := contentOf(d)
	if w, e := Open(d); w != nil || e != api.ErrDown {
		t.Errorf("got %v, %d", w, e)
	}
	expectFiles(t, "down", d, before)
}

// P7.1: the last valid pair counts, and only what is behind the whole records goes.
func TestOpenVote(t *testing.T) {
	const most = api.MaxIndex
	first, torn := rec(4, 2), rec(9, 5)[:11]
	wrong := [][]byte{rec(-1, 1), rec(most+1, 1), rec(5, -2), rec(5, 7), rec(5, 1<<40), rec(5), rec(), rec(5, 1, 1), rec(5, "1"), rec("5", 1),
		rec(5, []any{1}), rec([]any{5, 1}), raw(encoded(5)), raw(encoded("51")), raw(""), raw("junk"), raw(encoded([]any{5, 1}) + "x"), raw(strings.Repeat("x", 4096))}
	for k, x := range wrong {
		what := fmt.Sprintf("no pair, %d", k)
		tryOpen(t, []found{
			{what, one("vote", x), "0 -1 / 0 0  /", nil},
			{what, one("vote", first, x), "4 2 / 0 0  /", nil},
			{what, one("vote", first, x, x, rec(3, 6), x), "3 6 / 0 0  /", nil},
			{what, one("vote", first, x, torn), "4 2 / 0 0  /", one("vote", first, x)},
		})
	}
	tryOpen(t, []found{
		{"one", one("vote", first), "4 2 / 0 0  /", nil},
		{"a later one", one("vote", first, rec(5, -1), rec(6, 0)), "6 0 / 0 0  /", nil},
		{"a lower one", one("vote", first, rec(1, 3)), "1 3 / 0 0  /", nil},
		{"the least", one("vote", first, rec(0, -1)), "0 -1 / 0 0  /", nil},
		{"the greatest", one("vote", first, rec(most, 6)), "4611686018427387904 6 / 0 0  /", nil},
		{"torn", one("vote", first, torn), "4 2 / 0 0  /", one("vote", first)},
		{"one byte more", one("vote", first, []byte{0}), "4 2 / 0 0  /", one("vote", first)},
		{"zeros", one("vote", first, make([]byte, 17)), "4 2 / 0 0  /", one("vote", first)},
		{"behind a wrong sum", one("vote", first, []byte("12345678"), rec(7, 1)), "4 2 / 0 0  /", one("vote", first)},
		{"nothing whole", one("vote", torn), "0 -1 / 0 0  /", content{"vote": ""}},
	})
}

// pieces are the records of a snapshot's data.
func pieces(l ...string) []byte {
	var b []byte
	for _, p := range l {
		b = append(b, raw(p)...)
	}
	return b
}

// P7.1: a snapshot counts only if its file is that of a snapshot to the last byte.
func TestOpenSnap(t *testing.T) {
	const most = api.MaxIndex
	whole, half := strings.Repeat("p", 4096), strings.Repeat("q", 2048)
	var sixteen []string
	for k := range 16 {
		sixteen = append(sixteen, strings.Repeat(string(rune('a'+k)), 4096))
	}
	all := strings.Join(sixteen, "")
	good := []struct {
		b     []byte
		state string
	}{
		{rec(3, 2, 0), "0 -1 / 3 2  /"},
		{join(rec(3, 2, 1), pieces("x")), "0 -1 / 3 2 x /"},
		{join(rec(1, 1, 1), pieces(whole)), "0 -1 / 1 1 " + short(whole) + " /"},
		{join(rec(9, 8, 2), pieces(whole, "x")), "0 -1 / 9 8 " + short(whole+"x") + " /"},
		{join(rec(9, 8, 2), pieces(whole, whole)), "0 -1 / 9 8 " + short(whole+whole) + " /"},
		{join(rec(9, 8, 3), pieces(whole, whole, half)), "0 -1 / 9 8 " + short(whole+whole+half) + " /"},
		{join(rec(9, 8, 16), pieces(sixteen...)), "0 -1 / 9 8 " + short(all) + " /"},
		{join(rec(most, most, 1), pieces("y")), "0 -1 / 4611686018427387904 4611686018427387904 y /"},
	}
	for k, c := range good {
		tryOpen(t, []found{
			{fmt.Sprintf("good, %d", k), one("snap", c.b), c.state, nil},
			{fmt.Sprintf("a byte too few, %d", k), one("snap", c.b[:len(c.b)-1]), "0 -1 / 0 0  /", content{"snap": "-"}},
			{fmt.Sprintf("a byte more, %d", k), one("snap", c.b, []byte{0}), "0 -1 / 0 0  /", content{"snap": "-"}},
			{fmt.Sprintf("a record more, %d", k), one("snap", c.b, raw("")), "0 -1 / 0 0  /", content{"snap": "-"}},
			{fmt.Sprintf("another piece, %d", k), one("snap", c.b, raw("z")), "0 -1 / 0 0  /", content{"snap": "-"}},
		})
	}
	for k, b := range [][]byte{
		rec(0, 2, 0), rec(3, 0, 0), rec(-3, 2, 0), rec(3, -2, 0), rec(most+1, 2, 0), rec(3, most+1, 0), // no index or no term
		rec(3, 2, 1), rec(3, 2, -1), join(rec(3, 2, 0), pieces("x")), join(rec(3, 2, 2), pieces("x")), join(rec(3, 2, 1), pieces("x", "y")), // another number
		join(rec(3, 2, 1<<40), pieces("x")), join(rec(3, 2, 3), pieces(whole, "x")), join(rec(3, 2, 1), pieces(whole, "x")),
		join(rec(3, 2, 1), pieces("")), join(rec(3, 2, 2), pieces(whole, "")), join(rec(3, 2, 2), pieces(half, half)), join(rec(3, 2, 2), pieces("x", whole)), // other pieces
		join(rec(3, 2, 17), pieces(append(sixteen, "x")...)), join(rec(3, 2, 17), pieces(append(sixteen, whole)...)), // too many bytes
		rec(3, 2), rec(3, 2, 0, 0), rec(3, 2, "0"), rec("3", 2, 0), rec(3, "2", 0), rec(3, []any{2}, 0), rec(), raw(encoded(3)), raw(""), raw("junk"), // no head
		join(rec(3, 2, 1), rec("x")[:9]), join(rec(3, 2, 1), make([]byte, 9)), join(make([]byte, 8), rec(3, 2, 0)), []byte("junk"), make([]byte, 100),
	} {
		what := fmt.Sprintf("bad, %d", k)
		tryOpen(t, []found{
			{what, one("snap", b), "0 -1 / 0 0  /", content{"snap": "-"}},
			{what, content{"vote": string(rec(1, 1)), "snap": string(b), name(1): string(records(1, 2, "ab"))}, "1 1 / 0 0  / 2a 2b", content{"snap": "-"}},
		})
	}
	tryOpen(t, []found{{"text pieces", one("snap", rec(3, 2, 1), raw(encoded("x"))), "0 -1 / 3 2 " + encoded("x") + " /", nil}})
}

// P7.1: the records of the segments take effect one after the other, whatever the numbers of the segments.
func TestOpenSegments(t *testing.T) {
	snap := string(rec(3, 1, 0))
	tryOpen(t, []found{
		{"entries", one(name(1), records(1, 1, "abc")), "0 -1 / 0 0  / 1a 1b 1c", nil},
		{"no data", one(name(1), rec(1, 2, "")), "0 -1 / 0 0  / 2", nil},
		{"more than eight", one(name(1), records(1, 1, "abcdefghijkl")), "0 -1 / 0 0  / 1a 1b 1c 1d 1e 1f 1g 1h 1i 1j 1k 1l", nil},
		{"gaps", content{name(2): string(records(1, 1, "ab")), name(10): string(records(3, 2, "cd")), name(9999999999): string(records(5, 3, "e"))}, "0 -1 / 0 0  / 1a 1b 2c 2d 3e", nil},
		{"by number", content{name(11): string(records(1, 2, "b")), name(9): string(records(1, 1, "a"))}, "0 -1 / 0 0  / 2b", nil},
		{"an empty one between", content{name(1): string(records(1, 1, "ab")), name(2): "", name(3): string(records(3, 1, "c"))}, "0 -1 / 0 0  / 1a 1b 1c", nil},
		{"in the place of others", one(name(1), records(1, 1, "abcd"), records(2, 2, "x")), "0 -1 / 0 0  / 1a 2x", nil},
		{"a truncation", one(name(1), records(1, 1, "abcd"), rec(3), records(3, 2, "x")), "0 -1 / 0 0  / 1a 1b 2x", nil},
		{"a truncation of all", one(name(1), records(1, 1, "abcd"), rec(1)), "0 -1 / 0 0  /", nil},
		{"a truncation behind the last", one(name(1), records(1, 1, "ab"), rec(3)), "0 -1 / 0 0  / 1a 1b", nil},
		{"a truncation of nothing", one(name(1), rec(1)), "0 -1 / 0 0  /", nil},
		{"terms that fall", one(name(1), rec(1, 9, "a"), rec(2, 1, "b"), rec(3, api.MaxIndex, "c")), "0 -1 / 0 0  / 9a 1b 4611686018427387904c", nil},
		{"the longest data", one(name(1), rec(1, 1, strings.Repeat("d", 4000))), "0 -1 / 0 0  / 1" + short(strings.Repeat("d", 4000)), nil},
		{"entries in the snapshot", content{"snap": snap, name(1): string(records(1, 1, "abcde"))}, "0 -1 / 3 1  / 1d 1e", nil},
		{"only entries in the snapshot", content{"snap": snap, name(4): string(records(2, 1, "bc"))}, "0 -1 / 3 1  /", nil},
		{"from the snapshot on", content{"snap": snap, name(4): string(records(4, 1, "de"))}, "0 -1 / 3 1  / 1d 1e", nil},
		{"an entry in the snapshot behind others", content{"snap": snap, name(1): string(join(records(1, 1, "abcde"), records(3, 2, "x")))}, "0 -1 / 3 1  /", nil},
		{"and others behind it", content{"snap": snap, name(1): string(join(records(1, 1, "abcde"), records(2, 2, "xyz")))}, "0 -1 / 3 1  / 2z", nil},
		{"a truncation in the snapshot", content{"snap": snap, name(1): string(join(records(1, 1, "abcde"), rec(2)))}, "0 -1 / 3 1  /", nil},
		{"the greatest index", content{"snap": string(rec(api.MaxIndex-1, 1, 0)), name(1): string(join(rec(api.MaxIndex, 1, "a"), rec(api.MaxIndex)))}, "0 -1 / 4611686018427387903 1  /", nil},
	})
}

// P7.1: a record that doesn't fit, or a torn one, ends the reading: its segment is truncated, and the later ones go.
func TestOpenSegmentsWithFault(t *testing.T) {
	faults := map[string][]byte{
		"index 0": rec(0, 1, "x"), "index -1": rec(-1, 1, "x"), "a gap": rec(4, 1, "x"), "a great gap": rec(api.MaxIndex, 1, "x"), "beyond all": rec(api.MaxIndex+1, 1, "x"),
		"the greatest number": rec(1<<63-1, 1, "x"), "the least number": rec(-1<<63, 1, "x"),
		"a truncation at 0": rec(0), "one at -1": rec(-1), "one behind a gap": rec(4), "one beyond all": rec(api.MaxIndex + 1),
		"term 0": rec(3, 0, "x"), "term -1": rec(3, -1, "x"), "term beyond all": rec(3, api.MaxIndex+1, "x"), "a low one of term 0": rec(1, 0, "x"),
		"too much data": rec(3, 1, strings.Repeat("d", 4001)), "no list": raw(encoded(3)), "a text": raw(encoded("x")), "no part": rec(), "two parts": rec(3, 1), "four parts": rec(3, 1, "x", 0),
		"data that are a number": rec(3, 1, 5), "data that are a list": rec(3, 1, []any{"x"}), "a term that is a text": rec(3, "1", "x"), "an index that is a text": rec("3", 1, "x"),
		"a truncation at a text": rec("3"), "one at a list": rec([]any{3}), "no item": raw("junk"), "no payload": raw(""), "more than an item": raw(encoded([]any{3, 1, "x"}) + "x"),
		"torn": rec(3, 1, "x")[:12], "a byte": {1}, "zeros": make([]byte, 20), "a wrong sum": append([]byte{1}, rec(3, 1, "x")[1:]...),
	}
	two, behind := string(records(1, 1, "ab")), string(records(3, 5, "yz"))
	for what, x := range faults {
		bad := string(x)
		tryOpen(t, []found{
			{what + ", only", content{name(1): two + bad}, "0 -1 / 0 0  / 1a 1b", content{name(1): two}},
			{what + ", in the first", content{name(1): two + bad + behind, name(2): behind, name(3): two}, "0 -1 / 0 0  / 1a 1b", content{name(1): two, name(2): "-", name(3): "-"}},
			{what + ", in the middle", content{name(1): two[:len(two)/2], name(5): two[len(two)/2:] + bad + behind, name(7): behind}, "0 -1 / 0 0  / 1a 1b", content{name(5): two[len(two)/2:], name(7): "-"}},
			{what + ", first of the middle", content{name(1): two, name(5): bad + behind, name(6): behind, name(70): ""}, "0 -1 / 0 0  / 1a 1b", content{name(5): "", name(6): "-", name(70): "-"}},
			{what + ", in the last", content{name(1): two, name(2): behind + string(rec(3)) + bad}, "0 -1 / 0 0  / 1a 1b", content{name(2): behind + string(rec(3))}},
			{what + ", first of the last", content{name(1): two, name(2): bad}, "0 -1 / 0 0  / 1a 1b", content{name(2): ""}},
		})
	}
	over := string(join(rec(api.MaxIndex, 1, "a"), rec(api.MaxIndex+1, 1, "b")))
	tryOpen(t, []found{
		{"above the greatest index", content{"snap": string(rec(api.MaxIndex-1, 1, 0)), name(1): over}, "0 -1 / 4611686018427387903 1  / 1a", content{name(1): string(rec(api.MaxIndex, 1, "a"))}},
		{"above it at once", content{"snap": string(rec(api.MaxIndex, 1, 0)), name(1): string(rec(api.MaxIndex + 1))}, "0 -1 / 4611686018427387904 1  /", content{name(1): ""}},
		{"behind the snapshot", content{"snap": string(rec(3, 1, 0)), name(1): string(records(5, 1, "e"))}, "0 -1 / 3 1  /", content{name(1): ""}},
		{"without the snapshot", content{"snap": "x", name(3): string(records(4, 1, "d"))}, "0 -1 / 0 0  /", content{"snap": "-", name(3): ""}},
	})
}

// P7.1: what Open writes comes in the chapter's order, and an error ends it there; the next Open does the rest.
func TestOpenStepByStep(t *testing.T) {
	start := content{
		"vote": string(join(rec(2, 1), rec(3, 0), []byte("torn"))), "vote.new": string(rec(9, 1)), "snap": "junk", "snap.new": "junk",
		name(2): string(records(1, 1, "ab")), name(3): string(join(records(3, 1, "c"), rec(9), records(4, 1, "d"))), name(5): string(records(5, 1, "e")), name(40): "",
	}
	steps := []func(content){
		func(c content) { delete(c, "vote.new") },
		func(c content) { delete(c, "snap.new") },
		func(c content) { c["vote"] = string(join(rec(2, 1), rec(3, 0))) },
		func(c content) { delete(c, "snap") },
		func(c content) { c[name(3)] = string(records(3, 1, "c")) },
		func(c content) { delete(c, name(5)) },
		func(c content) { delete(c, name(40)) },
	}
	for armed := range len(steps) + 1 {
		d, want := diskOf(start), contentOf(diskOf(start))
		for _, step := range steps[:armed] {
			step(want)
		}
		d.Arm(armed)
		w, e := Open(d)
		expectFiles(t, fmt.Sprintf("armed with %d", armed), d, want)
		if armed == len(steps) {
			expectState(t, "not failing", w, d, "3 0 / 0 0  / 1a 1b 1c")
			continue
		}
		if w != nil || e != api.ErrDown {
			t.Errorf("armed with %d: %v, %d", armed, w, e)
		}
		d.Crash(nil)
		expectState(t, fmt.Sprintf("behind %d", armed), open(t, d), d, "3 0 / 0 0  / 1a 1b 1c")
	}
}

// P7.1: each write of Open that fails ends it, also where no other one follows.
func TestOpenFails(t *testing.T) {
	for what, c := range map[string]content{
		"vote.new": {"vote.new": ""}, "snap.new": {"snap.new": ""}, "vote": {"vote": "torn"}, "snap": {"snap": "junk"}, "cut": {name(1): "torn"},
	} {
		d := diskOf(c)
		d.Arm(0)
		if w, e := Open(d); w != nil || e != api.ErrDown {
			t.Errorf("%s: got %v, %d", what, w, e)
		}
		expectFiles(t, what, d, c)
	}
}

// P7.1: a disk that has not crashed is read with what isn't sure yet.
func TestOpenBeforeSync(t *testing.T) {
	d := disk.New(room)
	w := open(t, d)
	expect(t, "Append", w.Append(1, entries(1, "abcdefghij")), api.OK)
	again := open(t, d)
	expectState(t, "again", again, d, "0 -1 / 0 0  / 1a 1b 1c 1d 1e 1f 1g 1h 1i 1j")
	expect(t, "Sync", again.Sync(), api.OK)
	if !allSure(d) {
		t.Error("not all bytes are sure")
	}
}
