package wal

import (
	"fmt"
	"math"
	"strings"
	"testing"

	"provost/api"
	"provost/disk"
)

// P7.2: each vote is a record that is sure at once.
func TestVote(t *testing.T) {
	d := disk.New(room)
	w := open(t, d)
	file := ""
	for _, v := range [][2]int{{0, -1}, {0, 3}, {1, 2}, {1, 2}, {1, 5}, {1, -1}, {300, 0}, {api.MaxIndex, 6}, {api.MaxIndex, -1}} {
		expect(t, fmt.Sprint(v), w.Vote(int64(v[0]), v[1]), api.OK)
		file += string(rec(v[0], v[1]))
		expectFiles(t, fmt.Sprint(v), d, content{"vote": file})
		if !allSure(d) {
			t.Errorf("%v: not all bytes are sure", v)
		}
		expectState(t, fmt.Sprint(v), w, d, fmt.Sprintf("%d %d / 0 0  /", v[0], v[1]))
	}
}

// P7.2: what is no term or no vote is refused ahead of all else, and nothing is changed.
func TestVoteOfWrongNumbers(t *testing.T) {
	d := diskOf(one("vote", rec(5, 3)))
	w := open(t, d)
	wrong := []struct {
		term int64
		vote int
	}{{4, 3}, {0, 3}, {-1, 3}, {math.MinInt64, 3}, {api.MaxIndex + 1, 3}, {math.MaxInt64, 3}, {5, -2}, {5, 7}, {6, math.MinInt}, {6, math.MaxInt}, {4, 7}}
	for range 2 {
		for _, x := range wrong {
			expect(t, fmt.Sprint(x), w.Vote(x.term, x.vote), api.ErrArg)
		}
		if got := show(w.State()); got != "5 3 / 0 0  /" {
			t.Errorf("got %q", got)
		}
		expectFiles(t, "wrong", d, one("vote", rec(5, 3)))
		d.Arm(0)
		expect(t, "a failing one", w.Vote(5, 3), api.ErrDown) // and now the same of a disk that is down
		d.Crash(nil)
		open(t, d)
		d.Arm(0)
		d.Sync("vote")
	}
	expect(t, "down", w.Vote(5, 3), api.ErrDown)
}

// filler is a record that is no valid pair, of so many bytes.
func filler(n int) []byte { return raw(strings.Repeat("f", n-8)) }

// P7.2: with 400 bytes the file takes one more record, with more it is made anew.
func TestVoteMakesFileAnew(t *testing.T) {
	for _, c := range []struct {
		before int
		anew   bool
	}{{8, false}, {17, false}, {399, false}, {400, false}, {401, true}, {402, true}, {4000, true}} {
		what := fmt.Sprintf("%d bytes", c.before)
		d := diskOf(one("vote", filler(c.before)))
		w := open(t, d)
		expect(t, what, w.Vote(7, 4), api.OK)
		want := one("vote", filler(c.before), rec(7, 4))
		if c.anew {
			want = one("vote", rec(7, 4))
		}
		expectFiles(t, what, d, want)
		if !allSure(d) {
			t.Errorf("%s: not all bytes are sure", what)
		}
		expectState(t, what, w, d, "7 4 / 0 0  /")
	}
}

// P7.2: votes by the hundred leave a short file, and the last one counts.
func TestVotes(t *testing.T) {
	d := disk.New(2000)
	w := open(t, d)
	want := ""
	for k := range 500 {
		term, vote := k*k, k%8-1
		if len(want) > 400 {
			want = ""
		}
		want += string(rec(term, vote))
		expect(t, fmt.Sprint(k), w.Vote(int64(term), vote), api.OK)
		expectFiles(t, fmt.Sprint(k), d, content{"vote": want})
		d.Crash(nil)
		expectState(t, fmt.Sprint(k), w, d, fmt.Sprintf("%d %d / 0 0  /", term, vote))
	}
}

// P7.2: what the disk refuses comes to nothing, and what was done before remains done.
func TestVoteOnDiskWithoutRoom(t *testing.T) {
	d := disk.New(30)
	w := open(t, d)
	expect(t, "the first", w.Vote(1, 2), api.OK)
	expect(t, "one too many", w.Vote(2, 2), api.ErrFull)
	expectFiles(t, "full", d, one("vote", rec(1, 2)))
	expectState(t, "full", w, d, "1 2 / 0 0  /")

	d = disk.New(420)
	d.Append("vote", filler(405))
	w = open(t, d)
	expect(t, "anew", w.Vote(2, 2), api.ErrFull)
	expectFiles(t, "anew", d, one("vote", filler(405)))
	expectState(t, "anew", w, d, "0 -1 / 0 0  /")

	d = diskOf(one("vote", filler(405)))
	for k := range api.MaxFiles - 1 {
		d.Append(fmt.Sprintf("f%d", k), nil)
	}
	w, before := open(t, d), contentOf(d)
	expect(t, "too many files", w.Vote(2, 2), api.ErrMany)
	expectFiles(t, "too many files", d, before)
	expect(t, "one file less", d.Drop("f9"), api.OK)
	expect(t, "one file less", w.Vote(2, 2), api.OK)
	expectState(t, "one file less", w, d, "2 2 / 0 0  /")
}

// P7.2: a vote whose write fails isn't the state's, and what Open finds is the one before or this one.
func TestVoteFails(t *testing.T) {
	old, next := "3 1 / 0 0  /", "4 2 / 0 0  /"
	for _, c := range []struct {
		size  int
		found []string // by how many writes succeed, when all bytes are kept
	}{{100, []string{old, next}}, {401, []string{old, old, old}}} {
		for armed := range len(c.found) {
			what := fmt.Sprintf("%d bytes, armed with %d", c.size, armed)
			for _, left := range []disk.Left{{}, {Keep: 3}, {Keep: 3, Zero: true}, {Keep: 1000}, {Zero: true}} {
				d := diskOf(one("vote", filler(c.size-17), rec(3, 1)))
				w := open(t, d)
				d.Arm(armed)
				expect(t, what, w.Vote(4, 2), api.ErrDown)
				expect(t, what+", once more", w.Vote(4, 2), api.ErrDown)
				if got := show(w.State()); got != old {
					t.Errorf("%s: got %q", what, got)
				}
				d.Crash([]disk.Left{left, left})
				want := old
				if left.Keep == 1000 {
					want = c.found[armed]
				}
				expectState(t, what, open(t, d), d, want)
			}
		}
	}
}
