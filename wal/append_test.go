package wal

import (
	"fmt"
	"math"
	"slices"
	"strings"
	"testing"

	"provost/api"
	"provost/disk"
)

// P7.3: entries are written behind one another, eight records to a segment.
func TestAppend(t *testing.T) {
	d := disk.New(room)
	w := open(t, d)
	expect(t, "nothing", w.Append(1, nil), api.OK)
	expectFiles(t, "nothing", d, nil)
	expect(t, "seven", w.Append(1, entries(1, "abcdefg")), api.OK)
	expectFiles(t, "seven", d, one(name(1), records(1, 1, "abcdefg")))
	expect(t, "one", w.Append(8, entries(2, "h")), api.OK)
	first := join(records(1, 1, "abcdefg"), rec(8, 2, "h"))
	expectFiles(t, "eight", d, one(name(1), first))
	expectState(t, "eight", w, d, "0 -1 / 0 0  / 1a 1b 1c 1d 1e 1f 1g 2h")
	expect(t, "nothing behind eight", w.Append(9, nil), api.OK)
	expectFiles(t, "nothing behind eight", d, one(name(1), first))
	if d.Sure(name(1)) != 0 {
		t.Error("bytes are sure without a sync")
	}
	expect(t, "the ninth", w.Append(9, entries(2, "i")), api.OK)
	expectFiles(t, "nine", d, content{name(1): string(first), name(2): string(rec(9, 2, "i"))})
	if d.Sure(name(1)) != len(first) || d.Sure(name(2)) != 0 {
		t.Errorf("%d and %d bytes are sure", d.Sure(name(1)), d.Sure(name(2)))
	}
	expectState(t, "nine", w, d, "0 -1 / 0 0  / 1a 1b 1c 1d 1e 1f 1g 2h 2i")
}

// P7.3: an entry takes the place of those from its index on; no entries take no place.
func TestAppendInPlaceOfOthers(t *testing.T) {
	for from := int64(1); from <= 6; from++ {
		for n := range 4 {
			d := diskOf(one(name(1), records(1, 1, "abcde")))
			w := open(t, d)
			what := fmt.Sprintf("%d from %d on", n, from)
			expect(t, what, w.Append(from, entries(2, "xyz"[:n])), api.OK)
			want := entries(1, "abcde")
			if n > 0 {
				want = append(want[:from-1], entries(2, "xyz"[:n])...)
			}
			expectFiles(t, what, d, one(name(1), records(1, 1, "abcde"), records(int(from), 2, "xyz"[:n])))
			expectState(t, what, w, d, show(State{Vote: -1, Log: want}))
		}
	}
}

// P7.3: the edges of terms, indexes and data, and behind a snapshot.
func TestAppendAtEdges(t *testing.T) {
	d := diskOf(one("snap", rec(api.MaxIndex-2, 5, 0)))
	w := open(t, d)
	const from = api.MaxIndex - 1
	long := strings.Repeat("d", 4000)
	l := []api.Entry{{Term: 1, Data: ""}, {Term: api.MaxIndex, Data: long}}
	expect(t, "three", w.Append(from, append(slices.Clone(l), l[0])), api.ErrArg)
	expect(t, "none", w.Append(from, nil), api.OK)
	expectFiles(t, "three", d, one("snap", rec(api.MaxIndex-2, 5, 0)))
	expect(t, "two", w.Append(from, l), api.OK)
	expectState(t, "two", w, d, "0 -1 / 4611686018427387902 5  / 1 4611686018427387904"+short(long))
	expect(t, "none behind the greatest index", w.Append(api.MaxIndex+1, nil), api.OK)
	expect(t, "one behind it", w.Append(api.MaxIndex+1, l[:1]), api.ErrArg)
	expect(t, "none further on", w.Append(api.MaxIndex+2, nil), api.ErrArg)
	expect(t, "at the greatest index", w.Append(api.MaxIndex, l[:1]), api.OK)
	expect(t, "two there", w.Append(api.MaxIndex, l), api.ErrArg)
	expectState(t, "one", w, d, "0 -1 / 4611686018427387902 5  / 1 1")
}

// P7.3: wrong arguments are refused, ErrArg ahead of ErrMany ahead of the disk's errors, and nothing is changed.
func TestAppendOfWrongEntries(t *testing.T) {
	files := content{"snap": string(rec(4, 1, 0)), name(1): string(records(5, 1, "ef"))}
	d := diskOf(files)
	w := open(t, d)
	good, long := api.Entry{Term: 1, Data: "x"}, api.Entry{Term: 1, Data: strings.Repeat("x", 4001)}
	bad := []api.Entry{{Term: 0}, {Term: -1, Data: "x"}, {Term: math.MinInt64}, {Term: api.MaxIndex + 1}, {Term: math.MaxInt64}}
	try := func(how string) {
		t.Helper()
		for _, from := range []int64{4, 8, 9, 0, -1, math.MinInt64, math.MaxInt64, api.MaxIndex, api.MaxIndex + 1} {
			for _, l := range [][]api.Entry{nil, {good}, {long}, {bad[0]}} {
				expect(t, fmt.Sprintf("%s, %d from %d on", how, len(l), from), w.Append(from, l), api.ErrArg)
			}
		}
		for k, x := range bad {
			for _, l := range [][]api.Entry{{x}, {good, x}, {x, good}, {long, x}, {x, long}} {
				expect(t, fmt.Sprintf("%s, term %d", how, k), w.Append(5, l), api.ErrArg)
			}
		}
		for _, l := range [][]api.Entry{{long}, {good, long}, {long, good}, {good, good, {Term: 1, Data: strings.Repeat("x", 1<<20)}}} {
			for from := int64(5); from <= 7; from++ {
				expect(t, how+", too much data", w.Append(from, l), api.ErrMany)
			}
		}
		if got := show(w.State()); got != "0 -1 / 4 1  / 1e 1f" {
			t.Errorf("%s: got %q", how, got)
		}
		expectFiles(t, how, d, files)
	}
	try("up")
	d.Arm(0)
	try("armed")
	d.Sync("snap")
	try("down")
	expect(t, "down", w.Append(7, []api.Entry{good}), api.ErrDown)
	expect(t, "down, nothing", w.Append(7, nil), api.OK)
	try("still down")
}

// P7.3: the numbers of new segments, and the last one that there may be.
func TestAppendToNewSegments(t *testing.T) {
	seven, eight := string(records(1, 1, "abcdefg")), string(records(1, 1, "abcdefgh"))
	h, i := string(rec(8, 1, "h")), string(rec(9, 1, "i"))
	for _, c := range []struct {
		what  string
		files content
		from  int64
		data  string
		errno api.Errno
		after content
	}{
		{"eight of eight", content{name(1): seven}, 8, "h", api.OK, content{name(1): eight}},
		{"nine", content{name(1): eight}, 9, "i", api.OK, content{name(1): eight, name(2): i}},
		{"both", content{name(1): seven}, 8, "hi", api.OK, content{name(1): eight, name(2): i}},
		{"more than eight", content{name(1): eight + i}, 10, "j", api.OK, content{name(1): eight + i, name(2): string(rec(10, 1, "j"))}},
		{"behind a gap", content{name(7): eight}, 9, "i", api.OK, content{name(7): eight, name(8): i}},
		{"with a gap", content{name(1): seven, name(7): h}, 9, "i", api.OK, content{name(1): seven, name(7): h + i}},
		{"an empty one", content{name(1): eight, name(7): ""}, 9, "i", api.OK, content{name(1): eight, name(7): i}},
		{"truncations count", content{name(1): seven + string(rec(8))}, 8, "h", api.OK, content{name(1): seven + string(rec(8)), name(2): h}},
		{"a carry", content{name(999): eight}, 9, "i", api.OK, content{name(999): eight, name(1000): i}},
		{"the last but one", content{name(9999999998): eight}, 9, "i", api.OK, content{name(9999999998): eight, name(9999999999): i}},
		{"the last one", content{name(9999999999): seven}, 8, "h", api.OK, content{name(9999999999): eight}},
		{"none any more", content{name(9999999999): eight}, 9, "i", api.ErrMany, content{name(9999999999): eight}},
		{"none any more for the second", content{name(9999999999): seven}, 8, "hij", api.ErrMany, content{name(9999999999): eight}},
		{"nor with room below", content{name(3): "", name(9999999999): eight}, 9, "i", api.ErrMany, content{name(3): "", name(9999999999): eight}},
	} {
		d := diskOf(c.files)
		w := open(t, d)
		expect(t, c.what, w.Append(c.from, entries(1, c.data)), c.errno)
		expectFiles(t, c.what, d, c.after)
		expectState(t, c.what, w, d, show(open(t, diskOf(c.after)).State()))
	}
}

// P7.3: a segment number that there isn't is found ahead of any write.
func TestAppendWithoutSegmentLeavesSync(t *testing.T) {
	d := disk.New(room)
	d.Append(name(9999999999), records(1, 1, "abcdefgh"))
	w := open(t, d)
	d.Arm(0)
	expect(t, "no segment", w.Append(9, entries(1, "i")), api.ErrMany)
	if d.Down() || d.Sure(name(9999999999)) != 0 {
		t.Error("it was synced")
	}
}

// P7.3: what the disk refuses ends the call; the entries ahead of it remain.
func TestAppendOnDiskWithoutRoom(t *testing.T) {
	d := disk.New(len(records(1, 1, "abc")) + 1)
	w := open(t, d)
	expect(t, "four", w.Append(1, entries(1, "abcd")), api.ErrFull)
	expectFiles(t, "four", d, one(name(1), records(1, 1, "abc")))
	expectState(t, "four", w, d, "0 -1 / 0 0  / 1a 1b 1c")
	expect(t, "one at the front", w.Append(1, entries(2, "x")), api.ErrFull)
	expectState(t, "one at the front", w, d, "0 -1 / 0 0  / 1a 1b 1c")

	d = disk.New(room)
	for k := range api.MaxFiles - 2 {
		d.Append(fmt.Sprintf("f%d", k), nil)
	}
	w = open(t, d)
	expect(t, "too many files", w.Append(1, entries(1, "abcdefghijklmnopqrs")), api.ErrMany)
	expectState(t, "too many files", w, d, "0 -1 / 0 0  / 1a 1b 1c 1d 1e 1f 1g 1h 1i 1j 1k 1l 1m 1n 1o 1p")
	if !allSure(d) {
		t.Error("the segment ahead of the one that wasn't made is not sure")
	}
}

// P7.3: the last segment is made sure ahead of the next one's first record, and not if it is sure already.
func TestAppendMakesLastSegmentSure(t *testing.T) {
	for _, synced := range []bool{false, true} {
		d := disk.New(room)
		w := open(t, d)
		expect(t, "eight", w.Append(1, entries(1, "abcdefgh")), api.OK)
		if synced {
			expect(t, "Sync", w.Sync(), api.OK)
		}
		d.Arm(1)
		if synced {
			expect(t, "the ninth", w.Append(9, entries(1, "i")), api.OK)
			expectState(t, "the ninth", w, d, "0 -1 / 0 0  / 1a 1b 1c 1d 1e 1f 1g 1h 1i")
			continue
		}
		expect(t, "the ninth", w.Append(9, entries(1, "i")), api.ErrDown)
		if got := show(w.State()); got != "0 -1 / 0 0  / 1a 1b 1c 1d 1e 1f 1g 1h" {
			t.Errorf("the ninth failed: got %q", got)
		}
		if d.Sure(name(1)) != len(records(1, 1, "abcdefgh")) {
			t.Error("the first segment is not sure")
		}
	}
}

// P7.3: Sync makes sure what isn't, the lowest segment first, and touches no other file.
func TestSync(t *testing.T) {
	a, b, c, e := records(1, 1, "ab"), records(3, 1, "cd"), records(5, 1, "ef"), records(7, 1, "gh")
	unsure := func() *disk.Disk {
		d := disk.New(room)
		d.Append(name(4), b)
		d.Sync(name(4))
		for f, x := range map[string][]byte{name(2): a, name(10): c, name(11): e, "vote": rec(1, 1), "s12": {1}} {
			d.Append(f, x)
		}
		return d
	}
	order := []int{2, 10, 11}
	for armed := range 4 {
		d := unsure()
		w := open(t, d)
		d.Arm(armed)
		want := api.ErrDown
		if armed == 3 {
			want = api.OK
		}
		expect(t, fmt.Sprintf("armed with %d", armed), w.Sync(), want)
		for k, n := range order {
			if sure := d.Sure(name(n)) > 0; sure != (k < armed) {
				t.Errorf("armed with %d: segment %d: %v", armed, n, sure)
			}
		}
		if d.Sure("vote")+d.Sure("s12") > 0 {
			t.Error("another file was synced")
		}
		if armed == 3 {
			expect(t, "once more", w.Sync(), api.OK)
			d.Sync("vote") // fails: the disk is down
			expect(t, "all sure on a disk that is down", w.Sync(), api.OK)
		} else {
			expect(t, "on a disk that is down", w.Sync(), api.ErrDown)
		}
	}
	d := disk.New(room)
	d.Arm(0)
	expect(t, "no segments", open(t, d).Sync(), api.OK)
}
