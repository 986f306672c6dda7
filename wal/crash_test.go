package wal

import (
	"bytes"
	"fmt"
	"math/rand"
	"slices"
	"strings"
	"testing"

	"provost/api"
	"provost/disk"
)

// write is what a Wal is to do on its disk.
type write func(d *disk.Disk) api.Errno

// twinSegment is a segment as the twin knows it.
type twinSegment struct {
	number  int
	indexes []int64 // of its records
	sure    bool
}

// twin tells what a Wal on a new disk is to write, and what its state is to be behind each write, by the chapter's
// words and without a disk.
type twin struct {
	writes []write
	states []State // states[k] is the one behind k writes
	synced []int   // synced[k] is the number of the state behind the last Sync, when k writes are done
	votes  int     // bytes in vote
	l      []twinSegment
}

func newTwin() *twin { return &twin{states: []State{{Vote: -1}}, synced: []int{0}} }

// now is the state as it is; what changes it changes the one behind the last write.
func (w *twin) now() *State { return &w.states[len(w.states)-1] }

func (w *twin) write(x write) {
	w.writes = append(w.writes, x)
	s := *w.now()
	s.Log = slices.Clone(s.Log)
	w.states = append(w.states, s)
	w.synced = append(w.synced, w.synced[len(w.synced)-1])
}

func (w *twin) append(file string, b []byte) {
	w.write(func(d *disk.Disk) api.Errno { return d.Append(file, b) })
}

func (w *twin) sync(file string) { w.write(func(d *disk.Disk) api.Errno { return d.Sync(file) }) }

func (w *twin) move(from, to string) {
	w.write(func(d *disk.Disk) api.Errno { return d.Move(from, to) })
}

func (w *twin) drop(file string) { w.write(func(d *disk.Disk) api.Errno { return d.Drop(file) }) }

// record writes a record to a segment.
func (w *twin) record(index int64, b []byte) {
	if n := len(w.l); n == 0 {
		w.l = append(w.l, twinSegment{number: 1})
	} else if last := w.l[n-1]; len(last.indexes) >= 8 {
		if !last.sure {
			w.sync(name(last.number))
			w.l[n-1].sure = true
		}
		w.l = append(w.l, twinSegment{number: last.number + 1})
	}
	last := &w.l[len(w.l)-1]
	w.append(name(last.number), b)
	last.indexes, last.sure = append(last.indexes, index), false
}

// call is a call of a Wal: what the Wal does, and what the twin does.
type call struct {
	what string
	wal  func(w *Wal) api.Errno
	twin func(w *twin)
}

func voteCall(term int64, vote int) call {
	return call{fmt.Sprintf("Vote(%d, %d)", term, vote), func(w *Wal) api.Errno { return w.Vote(term, vote) }, func(w *twin) {
		b := rec(int(term), vote)
		if w.votes > 400 {
			w.append("vote.new", b)
			w.sync("vote.new")
			w.move("vote.new", "vote")
			w.votes = 0
		} else {
			w.append("vote", b)
			w.sync("vote")
		}
		w.votes += len(b)
		w.now().Term, w.now().Vote = term, vote
	}}
}

func appendCall(from int64, l []api.Entry) call {
	return call{fmt.Sprintf("Append(%d, %d)", from, len(l)), func(w *Wal) api.Errno { return w.Append(from, l) }, func(w *twin) {
		for k, e := range l {
			index := from + int64(k)
			w.record(index, rec(int(index), int(e.Term), e.Data))
			s := w.now()
			s.Log = append(slices.Clone(s.Log[:index-s.Snap.Index-1]), e)
		}
	}}
}

func syncTwin(w *twin) {
	for k, s := range w.l {
		if !s.sure {
			w.sync(name(s.number))
			w.l[k].sure = true
		}
	}
	w.synced[len(w.synced)-1] = len(w.states) - 1
}

func syncCall() call { return call{"Sync()", (*Wal).Sync, syncTwin} }

func snapshotCall(s api.Snap) call {
	return call{fmt.Sprintf("Snapshot(%d, %d, %d bytes)", s.Index, s.Term, len(s.Data)), func(w *Wal) api.Errno { return w.Snapshot(s) }, func(w *twin) {
		old := *w.now()
		behind := s.Index - old.Snap.Index
		var left []api.Entry
		if behind <= int64(len(old.Log)) && old.Log[behind-1].Term == s.Term {
			left = old.Log[behind:]
		} else {
			w.record(old.Snap.Index+1, rec(int(old.Snap.Index+1)))
			syncTwin(w)
			w.now().Log = nil
		}
		b := rec(int(s.Index), int(s.Term), (len(s.Data)+4095)/4096)
		for piece := range slices.Chunk([]byte(s.Data), 4096) {
			b = append(b, raw(string(piece))...)
		}
		w.append("snap.new", b)
		w.sync("snap.new")
		w.move("snap.new", "snap")
		w.now().Snap, w.now().Log = s, slices.Clone(left)
		for len(w.l) > 1 && slices.Max(w.l[0].indexes) <= s.Index {
			w.drop(name(w.l[0].number))
			w.l = w.l[1:]
		}
	}}
}

// randomCall is a call that w takes.
func randomCall(r *rand.Rand, w *twin) call {
	s := *w.now()
	last := s.Snap.Index + int64(len(s.Log))
	data := func(n int) string { return strings.Repeat(string(rune('a'+r.Intn(26))), r.Intn(n)) }
	switch n := r.Intn(20); {
	case n < 6:
		return voteCall(s.Term+int64(r.Intn(3)), r.Intn(8)-1)
	case n < 14:
		from := last + 1
		if r.Intn(3) == 0 {
			from = s.Snap.Index + 1 + int64(r.Intn(len(s.Log)+1))
		}
		var l []api.Entry
		for range r.Intn(7) {
			l = append(l, api.Entry{Term: 1 + int64(r.Intn(4)), Data: data(12)})
		}
		return appendCall(from, l)
	case n < 17 || len(s.Log) == 0 && n < 19:
		return syncCall()
	case n < 19:
		k := r.Intn(len(s.Log))
		return snapshotCall(api.Snap{Index: s.Snap.Index + 1 + int64(k), Term: s.Log[k].Term, Data: data(6000)})
	}
	return snapshotCall(api.Snap{Index: s.Snap.Index + 1 + int64(r.Intn(len(s.Log)+4)), Term: 5, Data: data(20)})
}

// script is calls, the writes of which a twin knows.
type script struct {
	*twin
	calls []call
	ends  []int // by call, how many writes are done behind it
}

func newScript(next func(w *twin) call, n int) script {
	s := script{twin: newTwin()}
	for range n {
		c := next(s.twin)
		c.twin(s.twin)
		s.calls = append(s.calls, c)
		s.ends = append(s.ends, len(s.writes))
	}
	return s
}

func randomScript(seed int64, n int) script {
	r := rand.New(rand.NewSource(seed))
	return newScript(func(w *twin) call { return randomCall(r, w) }, n)
}

// play runs s on a new disk that is armed with k, and tells which call failed.
func (s script) play(t *testing.T, k int) (*disk.Disk, *Wal, int) {
	t.Helper()
	d := disk.New(room)
	w := open(t, d)
	d.Arm(k)
	for n, c := range s.calls {
		if e := c.wal(w); e != api.OK {
			expect(t, c.what, e, api.ErrDown)
			return d, w, n
		}
	}
	return d, w, len(s.calls)
}

// expectTwin holds the disk and the state behind k writes against the twin's.
func (s script) expectTwin(t *testing.T, what string, d *disk.Disk, w *Wal, k int) {
	t.Helper()
	other := disk.New(room)
	other.Arm(k)
	for _, x := range s.writes[:min(k+1, len(s.writes))] {
		x(other)
	}
	expectFiles(t, what, d, contentOf(other))
	for _, f := range other.Files() {
		if got, want := d.Sure(f), other.Sure(f); got != want {
			t.Errorf("%s: %d bytes of %s are sure, not %d", what, got, f, want)
		}
	}
	if got, want := show(w.State()), show(s.states[k]); got != want || d.Down() != other.Down() {
		t.Errorf("%s: got %q, want %q", what, got, want)
	}
}

// logAbove is the log of s without the entries up to an index.
func logAbove(s State, index int64) string {
	n := min(max(0, index-s.Snap.Index), int64(len(s.Log)))
	return show(State{Log: s.Log[n:]})
}

// expectDurable holds what was found behind a crash, when k writes were done and the last call would have ended with
// end writes, against what P7.5 lets be found.
func (s script) expectDurable(t *testing.T, what string, found State, k, end int) {
	t.Helper()
	before, after := s.states[k], s.states[end]
	if p := [2]int64{found.Term, int64(found.Vote)}; p != [2]int64{before.Term, int64(before.Vote)} && p != [2]int64{after.Term, int64(after.Vote)} {
		t.Errorf("%s: term and vote %v", what, p)
	}
	if found.Snap != before.Snap && found.Snap != after.Snap {
		t.Errorf("%s: snapshot %d of term %d", what, found.Snap.Index, found.Snap.Term)
	}
	got := logAbove(found, found.Snap.Index)
	for _, x := range s.states[s.synced[k] : min(k+1, end)+1] {
		if got == logAbove(x, found.Snap.Index) {
			return
		}
	}
	t.Errorf("%s: log %q", what, got)
}

// expectGoesOn lets a Wal write behind what was found, and finds it.
func expectGoesOn(t *testing.T, what string, d *disk.Disk) {
	t.Helper()
	w := open(t, d)
	want := w.State()
	want.Term, want.Vote = want.Term+1, 6
	next := want.Snap.Index + int64(len(want.Log)) + 1
	want.Log = append(want.Log, entries(7, "xyz")...)
	if w.Vote(want.Term, 6) != api.OK || w.Append(next, entries(7, "xyz")) != api.OK || w.Sync() != api.OK {
		t.Errorf("%s: it doesn't go on", what)
	}
	d.Crash(nil)
	expectState(t, what+", gone on", w, d, show(want))
}

// lefts are what crashes may leave: nothing, all, or some bytes, the others lost or zeros.
func lefts(r *rand.Rand) [][]disk.Left {
	l := make([][]disk.Left, 6)
	for range api.MaxFiles {
		l[0] = append(l[0], disk.Left{})
		l[1] = append(l[1], disk.Left{Zero: true})
		l[2] = append(l[2], disk.Left{Keep: room})
		l[3] = append(l[3], disk.Left{Keep: r.Intn(40)})
		l[4] = append(l[4], disk.Left{Keep: r.Intn(40), Zero: true})
		l[5] = append(l[5], disk.Left{Keep: r.Intn(400), Zero: r.Intn(2) == 0})
	}
	return l
}

// P7.2 to P7.5: each write of each call fails in turn. The disk and the state are then as the chapter says, and what
// is found behind a crash is what was sure and a prefix of the rest.
func TestEachWriteFails(t *testing.T) {
	for seed := range int64(8) {
		s := randomScript(seed, 30)
		r := rand.New(rand.NewSource(seed))
		for k := range len(s.writes) + 1 {
			for n, l := range lefts(r) {
				d, w, failed := s.play(t, k)
				what := fmt.Sprintf("script %d, armed with %d, crash %d", seed, k, n)
				end := len(s.writes)
				if failed < len(s.calls) {
					end = s.ends[failed]
					what += ", at " + s.calls[failed].what
				}
				if end < k || failed > 0 && s.ends[failed-1] > k {
					t.Fatalf("%s: another call fails", what)
				}
				if n == 0 {
					s.expectTwin(t, what, d, w, k)
				}
				d.Crash(l)
				s.expectDurable(t, what, open(t, d).State(), k, end)
				expectGoesOn(t, what, d)
				if t.Failed() {
					return
				}
			}
		}
	}
}

// P7.1 to P7.4: long scripts, each of whose writes the twin foretells.
func TestLongScripts(t *testing.T) {
	for seed := int64(100); seed < 160; seed++ {
		s := randomScript(seed, 120)
		d, w, failed := s.play(t, len(s.writes))
		if failed != len(s.calls) {
			t.Fatalf("script %d: %s fails", seed, s.calls[failed].what)
		}
		what := fmt.Sprintf("script %d", seed)
		s.expectTwin(t, what, d, w, len(s.writes))
		expectState(t, what, w, d, show(*s.now()))
		if t.Failed() {
			return
		}
	}
}

// P7.5: a crash behind each call takes nothing that was said to be sure.
func TestCrashBehindEachCall(t *testing.T) {
	for seed := int64(200); seed < 210; seed++ {
		s := randomScript(seed, 40)
		r := rand.New(rand.NewSource(seed))
		for n := range s.calls {
			for k, l := range lefts(r) {
				part := script{s.twin, s.calls[:n+1], s.ends}
				d, _, _ := part.play(t, -1)
				d.Crash(l)
				what := fmt.Sprintf("script %d, behind call %d, %s, crash %d", seed, n, s.calls[n].what, k)
				found := open(t, d).State()
				s.expectDurable(t, what, found, s.ends[n], s.ends[n])
				if end := s.ends[n]; s.calls[n].what == "Sync()" && show(found) != show(s.states[end]) {
					t.Errorf("%s: got %q, want %q", what, show(found), show(s.states[end]))
				}
				if t.Failed() {
					return
				}
			}
		}
	}
}

// P7.5: the log behind a crash at every byte of what isn't sure: a prefix of the records, the whole ones all in it.
func TestCrashAtEachByte(t *testing.T) {
	sure, rest := records(1, 1, "ab"), [][]byte{rec(3, 1, "c"), rec(2, 2, ""), rec(3, 2, "dddd")}
	want := []string{" 1a 1b", " 1a 1b 1c", " 1a 2", " 1a 2 2dddd"}
	all := join(rest...)
	for keep := range len(all) + 2 {
		for _, zero := range []bool{false, true} {
			d := disk.New(room)
			w := open(t, d)
			w.Append(1, entries(1, "ab"))
			w.Sync()
			w.Append(3, entries(1, "c"))
			w.Append(2, []api.Entry{{Term: 2}, {Term: 2, Data: "dddd"}})
			expectFiles(t, "before", d, one(name(1), sure, all))
			d.Crash([]disk.Left{{Keep: keep, Zero: zero}})
			// The second record ends with a byte 0: zeros make it whole where only that byte was lost.
			left, _ := d.Read(name(1))
			whole, n := 0, 0
			for n < len(rest) && bytes.HasPrefix(left, join(sure, all[:whole+len(rest[n])])) {
				whole += len(rest[n])
				n++
			}
			what := fmt.Sprintf("%d bytes kept, %v", keep, zero)
			expectState(t, what, open(t, d), d, "0 -1 / 0 0  /"+want[n])
			expectFiles(t, what, d, one(name(1), sure, all[:whole]))
		}
	}
}
