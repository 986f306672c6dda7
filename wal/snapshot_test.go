package wal

import (
	"fmt"
	"math"
	"strings"
	"testing"

	"provost/api"
	"provost/disk"
)

// three are segments of three records each: entries 1 to 9, of term 1 up to 6 and then of term 2.
func three() content {
	return content{name(1): string(records(1, 1, "abc")), name(2): string(records(4, 1, "def")), name(3): string(records(7, 2, "ghi"))}
}

// P7.4: a snapshot of an entry that is in the log leaves those behind it; the segments that say nothing more go.
func TestSnapshotOfEntry(t *testing.T) {
	all := []string{"", "1a", "1b", "1c", "1d", "1e", "1f", "2g", "2h", "2i"}
	for index := 1; index <= 9; index++ {
		term := 1 + index/7
		what := fmt.Sprintf("at %d", index)
		d := diskOf(three())
		w := open(t, d)
		expect(t, what, w.Snapshot(api.Snap{Index: int64(index), Term: int64(term), Data: "x"}), api.OK)
		want := three()
		want["snap"] = string(join(rec(index, term, 1), raw("x")))
		if index >= 3 {
			delete(want, name(1))
		}
		if index >= 6 {
			delete(want, name(2))
		}
		expectFiles(t, what, d, want)
		if !allSure(d) {
			t.Errorf("%s: not all bytes are sure", what)
		}
		state := fmt.Sprintf("0 -1 / %d %d x /", index, term)
		for _, e := range all[index+1:] {
			state += " " + e
		}
		expectState(t, what, w, d, state)
		expect(t, what+", a further entry", w.Append(10, entries(3, "j")), api.OK)
		expectState(t, what+", a further entry", w, d, state+" 3j")
	}
}

// P7.4: a snapshot of an entry that isn't in the log, or is there with another term, leaves none: a truncation is
// written.
func TestSnapshotOfNoEntry(t *testing.T) {
	for _, c := range []struct{ index, term int }{{1, 2}, {5, 3}, {6, 2}, {7, 1}, {9, 1}, {9, 3}, {10, 2}, {11, 2}, {500, 9}, {api.MaxIndex, api.MaxIndex}} {
		what := fmt.Sprintf("%d of term %d", c.index, c.term)
		d := diskOf(three())
		w := open(t, d)
		expect(t, what, w.Snapshot(api.Snap{Index: int64(c.index), Term: int64(c.term)}), api.OK)
		want := three()
		want["snap"] = string(rec(c.index, c.term, 0))
		want[name(3)] += string(rec(1))
		if c.index >= 3 {
			delete(want, name(1))
		}
		if c.index >= 6 {
			delete(want, name(2))
		}
		expectFiles(t, what, d, want)
		if !allSure(d) {
			t.Errorf("%s: not all bytes are sure", what)
		}
		state := fmt.Sprintf("0 -1 / %d %d  /", c.index, c.term)
		expectState(t, what, w, d, state)
		if c.index < api.MaxIndex {
			expect(t, what+", a further entry", w.Append(int64(c.index)+1, entries(3, "j")), api.OK)
			expectState(t, what+", a further entry", w, d, state+" 3j")
		}
	}
}

// P7.4: the truncation begins behind the snapshot of before, also where there is no segment or a full one.
func TestSnapshotWritesTruncation(t *testing.T) {
	d := disk.New(room)
	w := open(t, d)
	expect(t, "the first", w.Snapshot(api.Snap{Index: 5, Term: 1, Data: "x"}), api.OK)
	expectFiles(t, "the first", d, content{"snap": string(join(rec(5, 1, 1), raw("x"))), name(1): string(rec(1))})
	expect(t, "seven", w.Append(6, entries(1, "fghijkl")), api.OK)
	expect(t, "the second", w.Snapshot(api.Snap{Index: 6, Term: 2, Data: "y"}), api.OK)
	full := string(join(rec(1), records(6, 1, "fghijkl")))
	expectFiles(t, "the second", d, content{"snap": string(join(rec(6, 2, 1), raw("y"))), name(1): full, name(2): string(rec(6))})
	expectState(t, "the second", w, d, "0 -1 / 6 2 y /")
	if !allSure(d) {
		t.Error("not all bytes are sure")
	}
	expect(t, "the third", w.Snapshot(api.Snap{Index: 20, Term: 2, Data: "z"}), api.OK)
	expectFiles(t, "the third", d, content{"snap": string(join(rec(20, 2, 1), raw("z"))), name(2): string(join(rec(6), rec(7)))})
	expectState(t, "the third", w, d, "0 -1 / 20 2 z /")

	d = diskOf(content{name(9999999999): string(records(1, 1, "abcdefgh"))})
	w = open(t, d)
	expect(t, "no segment any more", w.Snapshot(api.Snap{Index: 8, Term: 2}), api.ErrMany)
	expectFiles(t, "no segment any more", d, content{name(9999999999): string(records(1, 1, "abcdefgh"))})
	expect(t, "none needed", w.Snapshot(api.Snap{Index: 8, Term: 1}), api.OK)
	expectState(t, "none needed", w, d, "0 -1 / 8 1  /")
}

// P7.4: the data are cut into pieces of MaxText bytes, and there may be up to MaxSnap.
func TestSnapshotData(t *testing.T) {
	for _, n := range []int{0, 1, 4095, 4096, 4097, 8191, 8192, 8193, 50000, 61440, 61441, 65535, 65536} {
		what := fmt.Sprintf("%d bytes", n)
		data := strings.Repeat("0123456789abcdefg", n/17+1)[:n]
		want := rec(9, 3, (n+4095)/4096)
		for rest := data; rest != ""; {
			k := min(len(rest), 4096)
			want = append(want, raw(rest[:k])...)
			rest = rest[k:]
		}
		d := diskOf(three())
		w := open(t, d)
		expect(t, what, w.Snapshot(api.Snap{Index: 9, Term: 3, Data: data}), api.OK)
		if got := contentOf(d); got["snap"] != string(want) {
			t.Errorf("%s: %d bytes in the file, not %d", what, len(got["snap"]), len(want))
		}
		if w.State().Snap.Data != data {
			t.Errorf("%s: other data", what)
		}
		expectState(t, what, w, d, show(State{Vote: -1, Snap: api.Snap{Index: 9, Term: 3, Data: data}}))
	}
}

// P7.4: which segments go: only the lowest ones, one after the other, and never the last.
func TestSnapshotDropsSegments(t *testing.T) {
	head := string(records(1, 1, "abcd"))
	for _, c := range []struct {
		what  string
		files content
		index int64
		left  []int
	}{
		{"one segment only", content{name(5): head}, 4, []int{5}},
		{"just at the index", content{name(5): head, name(6): string(records(5, 1, "e"))}, 4, []int{6}},
		{"just above it", content{name(5): head, name(6): string(records(5, 1, "e"))}, 3, []int{5, 6}},
		{"the last stays", content{name(5): head, name(6): string(records(5, 1, "e")), name(9): ""}, 5, []int{9}},
		{"an empty one at the front", content{name(1): "", name(5): head, name(6): ""}, 2, []int{5, 6}},
		{"one with a greater index ahead", content{name(1): head + string(records(2, 1, "bc")), name(2): string(records(3, 1, "cd"))}, 3, []int{1, 2}},
		{"none behind one that stays", content{name(1): head, name(2): string(records(2, 1, "b")), name(3): string(records(3, 1, "cd"))}, 3, []int{1, 2, 3}},
		{"a truncation above it", content{name(1): string(records(1, 1, "abc")) + string(rec(4)), name(2): string(records(4, 1, "d"))}, 3, []int{1, 2}},
		{"a truncation at it", content{name(1): string(records(1, 1, "abc")) + string(rec(4)), name(2): string(records(4, 1, "d"))}, 4, []int{2}},
	} {
		d := diskOf(c.files)
		w := open(t, d)
		before := w.State()
		expect(t, c.what, w.Snapshot(api.Snap{Index: c.index, Term: 1}), api.OK)
		want := content{"snap": string(rec(int(c.index), 1, 0))}
		for _, n := range c.left {
			want[name(n)] = c.files[name(n)]
		}
		expectFiles(t, c.what, d, want)
		expectState(t, c.what, w, d, show(State{Vote: -1, Snap: api.Snap{Index: c.index, Term: 1}, Log: before.Log[c.index:]}))
	}
}

// P7.4: a segment with a record that has no index isn't one whose indexes are all low.
func TestSnapshotLeavesOtherRecords(t *testing.T) {
	d := diskOf(three())
	w := open(t, d)
	d.Append(name(1), raw("junk"))
	expect(t, "Snapshot", w.Snapshot(api.Snap{Index: 6, Term: 1}), api.OK)
	want := three()
	want["snap"] = string(rec(6, 1, 0))
	want[name(1)] += string(raw("junk"))
	expectFiles(t, "Snapshot", d, want)
}

// P7.4: wrong arguments are refused, ErrArg ahead of ErrMany ahead of the disk's errors, and nothing is changed.
func TestSnapshotOfWrongNumbers(t *testing.T) {
	files := three()
	files["snap"] = string(rec(4, 1, 0))
	d := diskOf(files)
	w := open(t, d)
	try := func(how string) {
		t.Helper()
		for _, data := range []string{"", "x", strings.Repeat("x", 65537)} {
			for _, s := range []api.Snap{{Index: 4, Term: 1}, {Index: 3, Term: 1}, {Index: 0, Term: 1}, {Index: -1, Term: 1}, {Index: math.MinInt64, Term: 1}, {Index: api.MaxIndex + 1, Term: 1}, {Index: math.MaxInt64, Term: 1},
				{Index: 5, Term: 0}, {Index: 5, Term: -1}, {Index: 5, Term: math.MinInt64}, {Index: 5, Term: api.MaxIndex + 1}, {Index: 5, Term: math.MaxInt64}, {}} {
				s.Data = data
				expect(t, fmt.Sprintf("%s, %d of term %d", how, s.Index, s.Term), w.Snapshot(s), api.ErrArg)
			}
		}
		for _, n := range []int{65537, 1 << 20} {
			for _, index := range []int64{5, 500} {
				expect(t, how+", too much data", w.Snapshot(api.Snap{Index: index, Term: 1, Data: strings.Repeat("x", n)}), api.ErrMany)
			}
		}
		if got := show(w.State()); got != "0 -1 / 4 1  / 1e 1f 2g 2h 2i" {
			t.Errorf("%s: got %q", how, got)
		}
		expectFiles(t, how, d, files)
	}
	try("up")
	d.Arm(0)
	try("armed")
	d.Sync("snap")
	try("down")
	expect(t, "down", w.Snapshot(api.Snap{Index: 5, Term: 1}), api.ErrDown)
	expect(t, "down, no entry", w.Snapshot(api.Snap{Index: 5, Term: 3}), api.ErrDown)
	try("still down")
}

// P7.4: what the disk refuses ends the call; what was done before remains done.
func TestSnapshotOnDiskWithoutRoom(t *testing.T) {
	start := records(1, 1, "abc")
	d := disk.New(len(start) + len(rec(1)))
	d.Append(name(1), start)
	w := open(t, d)
	expect(t, "an entry", w.Snapshot(api.Snap{Index: 2, Term: 1, Data: "x"}), api.ErrFull)
	expectState(t, "an entry", w, d, "0 -1 / 0 0  / 1a 1b 1c")
	expectFiles(t, "an entry", d, one(name(1), start))
	expect(t, "no entry", w.Snapshot(api.Snap{Index: 2, Term: 2, Data: "x"}), api.ErrFull)
	expectState(t, "no entry", w, d, "0 -1 / 0 0  /")
	expectFiles(t, "no entry", d, one(name(1), start, rec(1)))
	expect(t, "no entry, once more", w.Snapshot(api.Snap{Index: 2, Term: 2, Data: "x"}), api.ErrFull)
	expectFiles(t, "no entry, once more", d, one(name(1), start, rec(1)))
}

// P7.4: the state behind each write that fails: the log goes with the sync, the snapshot comes with the move.
func TestSnapshotFails(t *testing.T) {
	files := content{name(1): string(records(1, 1, "abcdefgh")), name(2): string(records(9, 1, "ij"))}
	old, cleared := "0 -1 / 0 0  / 1a 1b 1c 1d 1e 1f 1g 1h 1i 1j", "0 -1 / 0 0  /"
	for _, c := range []struct {
		s     api.Snap
		state []string // by how many writes succeed
		found []string // by Open, when all bytes are kept
	}{
		{api.Snap{Index: 9, Term: 1, Data: "x"}, []string{old, old, old, "0 -1 / 9 1 x / 1j"}, []string{old, old, old, "0 -1 / 9 1 x / 1j"}},
		{api.Snap{Index: 9, Term: 2, Data: "x"}, []string{old, old, cleared, cleared, cleared, "0 -1 / 9 2 x /"}, []string{old, cleared, cleared, cleared, cleared, "0 -1 / 9 2 x /"}},
	} {
		for armed, want := range c.state {
			what := fmt.Sprintf("%d of term %d, armed with %d", c.s.Index, c.s.Term, armed)
			d := diskOf(files)
			w := open(t, d)
			d.Arm(armed)
			expect(t, what, w.Snapshot(c.s), api.ErrDown)
			if got := show(w.State()); got != want {
				t.Errorf("%s: got %q, want %q", what, got, want)
			}
			all := disk.Left{Keep: room}
			d.Crash([]disk.Left{all, all, all, all})
			expectState(t, what, open(t, d), d, c.found[armed])
		}
	}
}
