package wal

import (
	"fmt"
	"hash/crc32"
	"maps"
	"slices"
	"strings"
	"testing"

	"provost/api"
	"provost/disk"
	"provost/frame"
	"provost/wire"
)

// room is enough for all that a test writes, if it doesn't say otherwise.
const room = 1 << 20

// raw is the record of any payload.
func raw(payload string) []byte {
	b, e := frame.Put(nil, []byte(payload))
	if e != api.OK {
		panic("no record of that payload")
	}
	return b
}

// item is the item of an int, a string, or a list of such.
func item(x any) api.Item {
	switch v := x.(type) {
	case int:
		return api.Item{Kind: api.Number, N: int64(v)}
	case string:
		return api.Item{Kind: api.Text, S: v}
	}
	i := api.Item{Kind: api.List}
	for _, y := range x.([]any) {
		i.L = append(i.L, item(y))
	}
	return i
}

// encoded is the encoding of the item of x.
func encoded(x any) string {
	b, e := wire.Encode(item(x))
	if e != api.OK {
		panic("no encoding of that item")
	}
	return string(b)
}

// rec is the record of a list of ints and strings.
func rec(parts ...any) []byte { return raw(encoded(parts)) }

// join puts bytes one behind the other.
func join(l ...[]byte) []byte { return slices.Concat(l...) }

// records are the records of entries of one term, whose data are the bytes of a text, from an index on.
func records(from, term int, data string) []byte {
	var b []byte
	for k := range len(data) {
		b = append(b, rec(from+k, term, data[k:k+1])...)
	}
	return b
}

// entries are entries of one term, whose data are the bytes of a text.
func entries(term int64, data string) []api.Entry {
	var l []api.Entry
	for k := range len(data) {
		l = append(l, api.Entry{Term: term, Data: data[k : k+1]})
	}
	return l
}

// short tells a text that may be long.
func short(s string) string {
	if len(s) < 16 {
		return s
	}
	return fmt.Sprintf("%d:%08x", len(s), crc32.ChecksumIEEE([]byte(s)))
}

// show tells a state: the term and the vote, the snapshot's index, term and data, and each entry's term and data.
func show(s State) string {
	var b strings.Builder
	fmt.Fprintf(&b, "%d %d / %d %d %s /", s.Term, s.Vote, s.Snap.Index, s.Snap.Term, short(s.Snap.Data))
	for _, e := range s.Log {
		fmt.Fprintf(&b, " %d%s", e.Term, short(e.Data))
	}
	return b.String()
}

// content is what is in a disk's files.
type content map[string]string

func contentOf(d *disk.Disk) content {
	c := content{}
	for _, f := range d.Files() {
		b, _ := d.Read(f)
		c[f] = string(b)
	}
	return c
}

// String tells the files and how long they are.
func (c content) String() string {
	var b strings.Builder
	for _, f := range slices.Sorted(maps.Keys(c)) {
		fmt.Fprintf(&b, "%s=%s ", f, short(c[f]))
	}
	return b.String()
}

// diskOf is a disk on which all that c says is sure.
func diskOf(c content) *disk.Disk {
	d := disk.New(room)
	for f, b := range c {
		if e := d.Append(f, []byte(b)); e != api.OK {
			panic("no room for it")
		}
		d.Sync(f)
	}
	return d
}

func open(t *testing.T, d *disk.Disk) *Wal {
	t.Helper()
	w, e := Open(d)
	if w == nil || e != api.OK {
		t.Fatalf("no Wal: %d", e)
	}
	return w
}

// expectState holds the state of w, and what one finds who opens d anew, against what is wanted.
func expectState(t *testing.T, what string, w *Wal, d *disk.Disk, want string) {
	t.Helper()
	if got := show(w.State()); got != want {
		t.Errorf("%s: got %q, want %q", what, got, want)
	}
	before := contentOf(d)
	if got := show(open(t, d).State()); got != want {
		t.Errorf("%s, opened anew: got %q, want %q", what, got, want)
	}
	expectFiles(t, what+", opened anew", d, before)
}

func expectFiles(t *testing.T, what string, d *disk.Disk, want content) {
	t.Helper()
	if got := contentOf(d); !maps.Equal(got, want) {
		t.Errorf("%s: got %v, want %v", what, got, want)
	}
}

func expect(t *testing.T, what string, got, want api.Errno) {
	t.Helper()
	if got != want {
		t.Errorf("%s: got %d, want %d", what, got, want)
	}
}

// allSure tells whether a crash would take nothing from a disk.
func allSure(d *disk.Disk) bool {
	for f, b := range contentOf(d) {
		if d.Sure(f) != len(b) {
			return false
		}
	}
	return true
}

// name is a segment's name.
func name(n int) string { return fmt.Sprintf("s%010d", n) }

// The chapter's examples.
func TestExamples(t *testing.T) {
	d := disk.New(room)
	w := open(t, d)
	expect(t, "Vote", w.Vote(1, 2), api.OK)
	expect(t, "Append", w.Append(1, entries(1, "ab")), api.OK)
	expect(t, "Sync", w.Sync(), api.OK)
	expect(t, "Append", w.Append(2, entries(2, "c")), api.OK)
	expectState(t, "the first", w, d, "1 2 / 0 0  / 1a 2c")
	d.Crash(nil)
	w = open(t, d)
	expectState(t, "the second", w, d, "1 2 / 0 0  / 1a 1b")
	expect(t, "Snapshot", w.Snapshot(api.Snap{Index: 2, Term: 1, Data: "x"}), api.OK)
	expectState(t, "the third", w, d, "1 2 / 2 1 x /")
}

// R3 and R4: the state is a copy, and neither it nor what was appended is looked at again.
func TestStateIsCopied(t *testing.T) {
	d := disk.New(room)
	w := open(t, d)
	l := entries(1, "abc")
	expect(t, "Append", w.Append(1, l), api.OK)
	l[0].Data = "x"
	s, other := w.State(), w.State()
	s.Log[1] = api.Entry{Term: 9, Data: "y"}
	_ = append(s.Log[:1], entries(8, "zz")...)
	expectState(t, "changed", w, d, "0 -1 / 0 0  / 1a 1b 1c")
	if got := show(other); got != "0 -1 / 0 0  / 1a 1b 1c" {
		t.Errorf("the other state is now %q", got)
	}
	kept := w.State()
	expect(t, "Append", w.Append(1, entries(2, "d")), api.OK)
	expect(t, "Append", w.Append(2, entries(2, "efgh")), api.OK)
	if got := show(kept); got != "0 -1 / 0 0  / 1a 1b 1c" {
		t.Errorf("the state of before is now %q", got)
	}
}

// R1: calls on what no Open has made neither panic nor do anything.
func TestNoWal(t *testing.T) {
	for _, w := range []*Wal{nil, {}} {
		expect(t, "Vote", w.Vote(1, 1), api.ErrDown)
		expect(t, "Append", w.Append(1, entries(1, "a")), api.ErrDown)
		expect(t, "Snapshot", w.Snapshot(api.Snap{Index: 1, Term: 1}), api.ErrDown)
		if s := w.State(); s.Term != 0 || s.Snap != (api.Snap{}) || len(s.Log) != 0 {
			t.Errorf("a state: %q", show(s))
		}
		w.Sync()
	}
	if w, e := Open(nil); w != nil || e != api.ErrDown {
		t.Errorf("no disk: %v, %d", w, e)
	}
}
