package disk

import (
	"bytes"
	"math"
	"slices"
	"strconv"
	"strings"
	"testing"

	"provost/api"
)

// run plays one line: a call's name in small letters, and its arguments. The bytes of an append may be left out; a
// crash has a word for each element of l, with a z behind the number if Zero is true.
func run(d *Disk, line string) api.Errno {
	w := append(strings.Fields(line), "", "")
	switch w[0] {
	case "append":
		return d.Append(w[1], []byte(w[2]))
	case "sync":
		return d.Sync(w[1])
	case "cut":
		return d.Cut(w[1], number(w[2]))
	case "move":
		return d.Move(w[1], w[2])
	case "drop":
		return d.Drop(w[1])
	case "arm":
		d.Arm(number(w[1]))
	case "crash":
		d.Crash(lefts(strings.Fields(line)[1:]))
	default:
		panic("no such call: " + line)
	}
	return api.OK
}

func number(s string) int {
	n, err := strconv.Atoi(s)
	if err != nil {
		panic(err)
	}
	return n
}

func lefts(words []string) []Left {
	var l []Left
	for _, w := range words {
		l = append(l, Left{number(strings.TrimSuffix(w, "z")), strings.HasSuffix(w, "z")})
	}
	return l
}

// show tells all that a disk tells: each file with its sure bytes, a bar and the others (a dot is a byte 0), how many
// bytes are used, and whether the disk is down.
func show(d *Disk) string {
	var s strings.Builder
	for _, file := range d.Files() {
		b, _ := d.Read(file)
		text, sure := strings.ReplaceAll(string(b), "\x00", "."), d.Sure(file)
		s.WriteString(file + "=" + text[:sure] + "|" + text[sure:] + " ")
	}
	s.WriteString(strconv.Itoa(d.Used()))
	if d.Down() {
		s.WriteString(" down")
	}
	return s.String()
}

// story is a script for a disk: the lines, with the errors where they aren't OK, and what the disk shows at last.
type story struct {
	room int
	text string
	want string
}

var errnos = map[string]api.Errno{
	"Range": api.ErrRange, "Many": api.ErrMany, "Name": api.ErrName, "None": api.ErrNone, "Full": api.ErrFull, "Down": api.ErrDown,
}

// tell plays stories. In a story's text lines are parted by semicolons, and an error follows its line and a colon.
func tell(t *testing.T, stories []story) {
	t.Helper()
	for _, s := range stories {
		d := New(s.room)
		for _, line := range strings.Split(s.text, ";") {
			call, word, _ := strings.Cut(line, ":")
			if got, want := run(d, call), errnos[strings.TrimSpace(word)]; got != want {
				t.Errorf("%q, at %q: got %d, want %d", s.text, call, got, want)
			}
		}
		if got := show(d); got != s.want {
			t.Errorf("%q: got %q, want %q", s.text, got, s.want)
		}
	}
}

// wrong are strings that are no names.
func wrong() []string {
	return []string{"", "-a", "-", "a b", "\xff", "a\x00", "a\n", "\uFFFD", strings.Repeat("a", 25), strings.Repeat("a", 100000)}
}

// P5.1: which capacities there are, and that a new disk is up, empty and not armed.
func TestNew(t *testing.T) {
	for _, room := range []int{-1, -2, math.MinInt, 1<<20 + 1, 1 << 21, 1 << 32, math.MaxInt} {
		if New(room) != nil {
			t.Errorf("%d: a disk", room)
		}
	}
	for _, room := range []int{0, 1, 10, 1<<20 - 1, 1 << 20} {
		d := New(room)
		if d == nil {
			t.Fatalf("%d: no disk", room)
		}
		if got := show(d); got != "0" {
			t.Errorf("%d: got %q", room, got)
		}
		for range 1000 {
			if e := d.Append("a", nil); e != api.OK {
				t.Fatalf("%d: a write fails: %d", room, e)
			}
		}
		if e := d.Append("a", make([]byte, room+1)); e != api.ErrFull {
			t.Errorf("%d: one byte too many: %d", room, e)
		}
		if e := d.Append("a", make([]byte, room)); e != api.OK || d.Used() != room {
			t.Errorf("%d: all bytes: %d, %d used", room, e, d.Used())
		}
		if e := d.Append("a", []byte{1}); e != api.ErrFull || d.Used() != room {
			t.Errorf("%d: one byte more: %d, %d used", room, e, d.Used())
		}
	}
}

// P5.1: names are in the order of their bytes, whatever their keys, and each time the same.
func TestFiles(t *testing.T) {
	want := []string{"!", "A", "B", "Z", "a", "aA", "aa", "ab", "b", "s0000000002", "s0000000010", "vote", "vote.new", "z", "é", "中", "\uFFFF", "\U00010000"}
	for turn := range 20 {
		d := New(100)
		for i := range want {
			// 7 and 18 have no common divisor: each name is reached once.
			if e := d.Append(want[(i*7+turn)%len(want)], []byte("x")); e != api.OK {
				t.Fatal(e)
			}
		}
		if got := d.Files(); !slices.Equal(got, want) {
			t.Fatalf("got %q", got)
		}
		if d.Used() != len(want) {
			t.Fatalf("%d used", d.Used())
		}
	}
	if got := New(10).Files(); len(got) != 0 {
		t.Errorf("without files: %q", got)
	}
}

// P5.1: how many bytes are used and sure, of several files, of an empty one, and of one that isn't there.
func TestUsedAndSure(t *testing.T) {
	d := New(100)
	tell(t, []story{
		{100, "append a abc; sync a; append a de; append b; append c x; sync c", "a=abc|de b=| c=x| 6"},
		{100, "append a abc; append A de; sync A", "A=de| a=|abc 5"},
	})
	run(d, "append a abc")
	run(d, "sync a")
	for _, file := range append(wrong(), "b", "A", "aa") {
		if n := d.Sure(file); n != 0 {
			t.Errorf("%.40q: %d sure bytes", file, n)
		}
	}
}

// P5.1: the bytes of a file, those that aren't sure too, whether the disk is up or down.
func TestRead(t *testing.T) {
	d := New(100)
	run(d, "append a abc")
	run(d, "sync a")
	run(d, "append a de")
	run(d, "append e")
	for range 2 {
		if b, e := d.Read("a"); string(b) != "abcde" || e != api.OK {
			t.Errorf("a: %q, %d", b, e)
		}
		if b, e := d.Read("e"); len(b) != 0 || e != api.OK {
			t.Errorf("e: %q, %d", b, e)
		}
		for _, file := range append(wrong(), "b", "A", "aa") {
			if b, e := d.Read(file); b != nil || e != api.ErrNone {
				t.Errorf("%.40q: %q, %d", file, b, e)
			}
		}
		run(d, "arm 0")
		run(d, "sync a")
		if !d.Down() {
			t.Fatal("it isn't down")
		}
	}
	run(d, "crash")
	run(d, "drop a")
	if b, e := d.Read("a"); b != nil || e != api.ErrNone {
		t.Errorf("dropped: %q, %d", b, e)
	}
}

// P5.2: appending, up to the capacity, to files that are there and to others.
func TestAppend(t *testing.T) {
	tell(t, []story{
		{10, "append a abcdef; append b abcde: Full; sync a; append a ghij", "a=abcdef|ghij 10"},
		{10, "append a abcdef; append b abcd; append b e: Full; append a e: Full; append c e: Full; append c; append a", "a=|abcdef b=|abcd c=| 10"},
		{10, "append a abcdefghijk: Full", "0"},
		{0, "append a; append b x: Full; append a x: Full; append a", "a=| 0"},
		{10, "append a abc; append A d; append a e", "A=|d a=|abce 5"},
		{10, "append a abcdefghij; drop a; append b abcdefghij; cut b 4; append c abcdef; append c g: Full", "b=|abcd c=|abcdef 10"},
		{10, "append a abcde; append b abcde; move a b; append c abcde; append c f: Full", "b=|abcde c=|abcde 10"},
		{10, "append a abcde; append b abcde; sync b; crash; append c abcde; append c f: Full", "a=| b=abcde| c=|abcde 10"},
	})
}

// full returns a disk with MaxFiles files, f00 to f63.
func full(t *testing.T, room int) *Disk {
	t.Helper()
	d := New(room)
	for i := range api.MaxFiles {
		if e := d.Append("f"+string([]byte{byte('0' + i/10), byte('0' + i%10)}), nil); e != api.OK {
			t.Fatalf("%d: %d", i, e)
		}
	}
	return d
}

// P5.2: there are MaxFiles files and not one more, which goes ahead of the capacity.
func TestMaxFiles(t *testing.T) {
	d := full(t, 3)
	for _, c := range []struct {
		line string
		want api.Errno
	}{
		{"append g", api.ErrMany},
		{"append g abcd", api.ErrMany},
		{"append F00", api.ErrMany},
		{"append f07 abcd", api.ErrFull},
		{"append f07 ab", api.OK},
		{"append g abcd", api.ErrMany},
		{"move f07 g", api.OK},
		{"append f07", api.ErrMany},
		{"move g f08", api.OK},
		{"append f07 c", api.OK},
		{"append g", api.ErrMany},
		{"drop f00", api.OK},
		{"append g d", api.ErrFull},
		{"arm 0", api.OK},
		{"append g", api.ErrDown},
		{"crash", api.OK},
		{"append f00", api.ErrMany},
	} {
		if e := run(d, c.line); e != c.want {
			t.Errorf("%s: got %d, want %d", c.line, e, c.want)
		}
	}
	if n := len(d.Files()); n != api.MaxFiles {
		t.Errorf("%d files", n)
	}
}

// P5.2: syncing, cutting, moving and dropping.
func TestWrites(t *testing.T) {
	tell(t, []story{
		{10, "append a abc; sync a; append a de; sync a; sync a", "a=abcde| 5"},
		{10, "append a; sync a; append a b", "a=|b 1"},
		{10, "append a abc; append b de; sync b", "a=|abc b=de| 5"},
		{10, "append a abc; sync b: None; sync A: None", "a=|abc 3"},
		{10, "append a abc; sync a; append a de; cut a 6: Range; cut a -1: Range; cut a 5", "a=abc|de 5"},
		{10, "append a abc; sync a; append a de; cut a 4", "a=abc|d 4"},
		{10, "append a abc; sync a; append a de; cut a 3", "a=abc| 3"},
		{10, "append a abc; sync a; append a de; cut a 2; append a fg", "a=ab|fg 4"},
		{10, "append a abc; sync a; append a de; cut a 0; append a f", "a=|f 1"},
		{10, "append a; cut a 1: Range; cut a 0; cut a -1: Range", "a=| 0"},
		{10, "cut a 0: None; cut a -1: None; cut a 1: None", "0"},
		{10, "append a abc; cut a 9223372036854775807: Range; cut a -9223372036854775808: Range; cut a 3", "a=|abc 3"},
		{10, "append a abc; sync a; append a de; move a b", "b=abc|de 5"},
		{10, "append a abc; sync a; append a de; append b xyz; sync b; move a b", "b=abc|de 5"},
		{10, "append a abc; append b xyz; sync b; move a b", "b=|abc 3"},
		{10, "append a abc; sync a; append a de; move a a", "a=abc|de 5"},
		{10, "append a abc; append b xyz; move a a; move b b", "a=|abc b=|xyz 6"},
		{10, "append a abc; move a A; append a de; move A a", "a=|abc 3"},
		{10, "append a abc; move b a: None; move b b: None; move b c: None", "a=|abc 3"},
		{10, "append a abc; move a b; append a xy; move b c", "a=|xy c=|abc 5"},
		{10, "append a abc; append b de; sync a; drop a; drop a: None; sync a: None", "b=|de 2"},
		{10, "append a abc; sync a; drop a; append a d", "a=|d 1"},
		{10, "append a abc; drop A: None; drop b: None", "a=|abc 3"},
	})
}

// P5.2: what was cut off doesn't come back, in the bytes or in another file.
func TestCutThenAppend(t *testing.T) {
	tell(t, []story{
		{10, "append a abcdefgh; cut a 2; append a xy; append a z", "a=|abxyz 5"},
		{10, "append a abcdefgh; sync a; cut a 2; crash 9z", "a=ab| 2"},
		{10, "append a abcdefgh; cut a 2; move a b; append a xy; append b z", "a=|xy b=|abz 5"},
	})
}

// calls are the writes on a file called s, with all else as it may be.
func calls(d *Disk, s string) map[string]api.Errno {
	return map[string]api.Errno{
		"append":       d.Append(s, []byte("x")),
		"append none":  d.Append(s, nil),
		"append more":  d.Append(s, make([]byte, 100)),
		"sync":         d.Sync(s),
		"cut":          d.Cut(s, 0),
		"cut below":    d.Cut(s, -1),
		"cut above":    d.Cut(s, 100),
		"move":         d.Move(s, "a"),
		"move to":      d.Move("a", s),
		"move neither": d.Move(s, s),
		"move none to": d.Move("none", s),
		"drop":         d.Drop(s),
	}
}

// P5.2: what is no name goes ahead of all but the disk that is down, which goes ahead of all; nothing changes.
func TestErrorsInOrder(t *testing.T) {
	for _, room := range []int{3, 4, 50} {
		d := full(t, room)
		run(d, "append f10 abc")
		run(d, "move f10 a")
		want := show(d)
		run(d, "arm 0")
		for _, s := range wrong() {
			for call, e := range calls(d, s) {
				if e != api.ErrName {
					t.Errorf("%s %.40q: got %d", call, s, e)
				}
			}
		}
		if got := show(d); got != want {
			t.Fatalf("got %q, want %q", got, want)
		}
		run(d, "sync a")
		want += " down"
		for _, s := range append(wrong(), "a", "f11", "none") {
			for call, e := range calls(d, s) {
				if e != api.ErrDown {
					t.Errorf("down, %s %.40q: got %d", call, s, e)
				}
			}
		}
		if got := show(d); got != want {
			t.Fatalf("down: got %q, want %q", got, want)
		}
	}
}

// P5.2: what each kind of write that fails leaves: half of what is appended, and else what there was.
func TestFailedWrites(t *testing.T) {
	const before = "append a abc; sync a; append a de; append b xy; "
	tell(t, []story{
		{20, before + "arm 0; append a 1234: Down", "a=abc|de12 b=|xy 9 down"},
		{20, before + "arm 0; append a 12345: Down", "a=abc|de12 b=|xy 9 down"},
		{20, before + "arm 0; append a 1: Down", "a=abc|de b=|xy 7 down"},
		{20, before + "arm 0; append a: Down", "a=abc|de b=|xy 7 down"},
		{20, before + "arm 0; append c 12345: Down", "a=abc|de b=|xy c=|12 9 down"},
		{20, before + "arm 0; append c 1: Down", "a=abc|de b=|xy c=| 7 down"},
		{20, before + "arm 0; append c: Down", "a=abc|de b=|xy c=| 7 down"},
		{8, before + "arm 0; append a 12: Full; append a 1: Down", "a=abc|de b=|xy 7 down"},
		{8, before + "arm 0; append c 12: Full; append c 1: Down", "a=abc|de b=|xy c=| 7 down"},
		{20, before + "arm 0; sync a: Down", "a=abc|de b=|xy 7 down"},
		{20, before + "arm 0; sync b: Down", "a=abc|de b=|xy 7 down"},
		{20, before + "arm 0; cut a 4: Down", "a=abc|de b=|xy 7 down"},
		{20, before + "arm 0; cut a 0: Down", "a=abc|de b=|xy 7 down"},
		{20, before + "arm 0; cut a 5: Down", "a=abc|de b=|xy 7 down"},
		{20, before + "arm 0; move a b: Down", "a=abc|de b=|xy 7 down"},
		{20, before + "arm 0; move a c: Down", "a=abc|de b=|xy 7 down"},
		{20, before + "arm 0; move a a: Down", "a=abc|de b=|xy 7 down"},
		{20, before + "arm 0; drop a: Down", "a=abc|de b=|xy 7 down"},
		{20, before + "arm 0; drop b: Down; append b: Down; sync b: Down; cut b 9: Down; move b q: Down; drop q: Down", "a=abc|de b=|xy 7 down"},
	})
}

// P5.2: a call for which another error applies is no write: it doesn't fail, and it isn't counted.
func TestNoWrites(t *testing.T) {
	const none = "sync q: None; cut q 0: None; cut a 4: Range; cut a -1: Range; move q a: None; move a -: Name; move - a: Name; drop q: None; append - b: Name; append a 12345678: Full; append q 12345678: Full; "
	tell(t, []story{
		{10, "append a abc; arm 0; " + none + "sync a: Down", "a=|abc 3 down"},
		{10, "append a abc; arm 1; " + none + "sync a; " + none + "drop a: Down", "a=abc| 3 down"},
	})
	d := full(t, 10)
	d.Arm(0)
	if e := d.Append("g", nil); e != api.ErrMany || d.Down() {
		t.Errorf("MaxFiles: %d", e)
	}
}

// P5.3: after arming with n, n writes of any kind succeed and the next one fails; a number below 0 disarms.
func TestArm(t *testing.T) {
	tell(t, []story{
		{20, "arm 0; append a ab: Down", "a=|a 1 down"},
		{20, "arm 1; append a ab; sync a: Down", "a=|ab 2 down"},
		{20, "arm 6; append a ab; append a; sync a; cut a 1; move a b; drop b; append c de: Down", "c=|d 1 down"},
		{20, "append a ab; arm 2; move a a; cut a 2; sync a: Down", "a=|ab 2 down"},
		{20, "arm 0; arm -1; append a ab; sync a", "a=ab| 2"},
		{20, "arm 1; append a ab; arm -7; append a cd; append a ef; sync a", "a=abcdef| 6"},
		{20, "arm 1; append a ab; arm -9223372036854775808; append a cd; sync a", "a=abcd| 4"},
		{20, "arm 1; append a ab; arm 1; append a cd; append a ef: Down", "a=|abcde 5 down"},
		{20, "arm 5; arm 0; append a ab: Down", "a=|a 1 down"},
		{20, "arm -1; append a ab; append a cd", "a=|abcd 4"},
		{20, "arm 9223372036854775807; append a ab; append a cd", "a=|abcd 4"},
	})
}

// P5.3: arming doesn't end a disk's being down; only a crash does, which disarms it too.
func TestDown(t *testing.T) {
	const down = "append a ab; sync a; arm 0; append a cd: Down; "
	tell(t, []story{
		{20, down + "arm -1; append a x: Down; sync a: Down", "a=ab|c 3 down"},
		{20, down + "arm 5; append a x: Down; drop a: Down", "a=ab|c 3 down"},
		{20, down + "crash; append a x; append a y; sync a", "a=abxy| 4"},
		{20, down + "arm 0; crash; append a x; append a y; sync a", "a=abxy| 4"},
		{20, down + "crash 1; append a x", "a=abc|x 4"},
		{20, "append a ab; arm 0; crash; append a x; append b y", "a=|x b=|y 2"},
		{20, "append a ab; arm 1; crash 2; append a x; append b y; sync b; arm 0; sync a: Down", "a=ab|x b=y| 4 down"},
	})
}

// P5.3: what a crash leaves, file by file.
func TestCrash(t *testing.T) {
	const one, three = "append a abc; sync a; append a de; ", "append c abc; sync c; append c de; append a fgh; append B ij; sync B; append B k; "
	tell(t, []story{
		{10, "append a abcdef; sync a; append a ghij; crash 1z", "a=abcdefg...| 10"},
		{10, "crash; crash 1 1z", "0"},
		{10, one + "crash", "a=abc| 3"},
		{10, one + "crash 0", "a=abc| 3"},
		{10, one + "crash -1", "a=abc| 3"},
		{10, one + "crash -9223372036854775808", "a=abc| 3"},
		{10, one + "crash 1", "a=abcd| 4"},
		{10, one + "crash 2", "a=abcde| 5"},
		{10, one + "crash 3", "a=abcde| 5"},
		{10, one + "crash 9223372036854775807", "a=abcde| 5"},
		{10, one + "crash 0z", "a=abc..| 5"},
		{10, one + "crash -1z", "a=abc..| 5"},
		{10, one + "crash -9223372036854775808z", "a=abc..| 5"},
		{10, one + "crash 1z", "a=abcd.| 5"},
		{10, one + "crash 2z", "a=abcde| 5"},
		{10, one + "crash 3z", "a=abcde| 5"},
		{10, one + "crash 9223372036854775807z", "a=abcde| 5"},
		{10, one + "crash 1 2 3z", "a=abcd| 4"},
		{10, one + "sync a; crash 0", "a=abcde| 5"},
		{10, one + "sync a; crash 0z", "a=abcde| 5"},
		{10, one + "crash 1; append a x; crash", "a=abcd| 4"},
		{10, one + "crash 1z; append a x; crash", "a=abcd.| 5"},
		{10, "append a; append b x; crash", "a=| b=| 0"},
		{10, "append a; append b x; crash 5z 5z", "a=| b=x| 1"},
		{20, three + "crash", "B=ij| a=| c=abc| 5"},
		{20, three + "crash 1", "B=ijk| a=| c=abc| 6"},
		{20, three + "crash 0z 1", "B=ij.| a=f| c=abc| 7"},
		{20, three + "crash 1 2z 1", "B=ijk| a=fg.| c=abcd| 10"},
		{20, three + "crash -1 9 9z", "B=ij| a=fgh| c=abcde| 10"},
		{20, three + "crash 0 0z 0z 1 1", "B=ij| a=...| c=abc..| 10"},
	})
}

// P5.2: what Cut, Move and Drop did is there after a crash, without a Sync.
func TestDurableAtOnce(t *testing.T) {
	tell(t, []story{
		{20, "append a abcde; sync a; cut a 2; crash", "a=ab| 2"},
		{20, "append a abcde; sync a; move a b; crash", "b=abcde| 5"},
		{20, "append a abcde; sync a; append b xyz; sync b; move a b; crash", "b=abcde| 5"},
		{20, "append a abcde; append b xyz; sync b; move a b; crash", "b=| 0"},
		{20, "append a abcde; sync a; drop a; crash", "0"},
		{20, "append a abcde; sync a; append b; drop a; append a x; crash 0", "a=| b=| 0"},
	})
}

// moves are the lines of the scripts of P5.4, with the files that each one concerns but by Append and Sync.
var moves = []struct{ line, concerns string }{
	{"append a xy", ""}, {"append a z", ""}, {"append b", ""}, {"append b uvw", ""}, {"append - x", ""},
	{"sync a", ""}, {"sync b", ""}, {"cut a 1", "a"}, {"cut b 2", "b"}, {"move a b", "ab"}, {"move b a", "ab"}, {"move a a", "a"},
	{"drop a", "a"}, {"arm 0", ""}, {"arm 1", ""}, {"crash", ""}, {"crash 1 1z", ""}, {"crash 9z 1", ""},
}

// scripts calls play with each row of four moves.
func scripts(play func(script []int)) {
	count := len(moves)
	for n := range count * count * count * count {
		play([]int{n / count / count / count, n / count / count % count, n / count % count, n % count})
	}
}

// secure returns the sure bytes of a file, or false if it isn't there.
func secure(d *Disk, file string) (string, bool) {
	b, e := d.Read(file)
	return string(b[:d.Sure(file)]), e == api.OK
}

// P5.4: in all scripts of four calls the capacity holds, and sure bytes stay but where a Cut, Move or Drop concerns the file.
func TestConsequences(t *testing.T) {
	const room = 6
	scripts(func(script []int) {
		d := New(room)
		run(d, "append a k")
		run(d, "sync a")
		for _, i := range script {
			m := moves[i]
			before := map[string]string{}
			for _, file := range d.Files() {
				before[file], _ = secure(d, file)
			}
			run(d, m.line)
			total := 0
			for _, file := range d.Files() {
				b, _ := d.Read(file)
				total += len(b)
			}
			if d.Used() > room || d.Used() != total {
				t.Fatalf("%v, %s: %d used, %d bytes in files", script, m.line, d.Used(), total)
			}
			for file, was := range before {
				is, found := secure(d, file)
				if !strings.Contains(m.concerns, file) && !(found && strings.HasPrefix(is, was)) {
					t.Fatalf("%v, %s: %q was sure in %s, now %q is", script, m.line, was, file, is)
				}
			}
		}
	})
}

// R2: beside an error nothing changes, but for a write that fails, which leaves the disk down; R4: the same calls answer the same.
func TestErrorsChangeNothing(t *testing.T) {
	scripts(func(script []int) {
		var first string
		for range 2 {
			d, all := New(4), ""
			for _, i := range script {
				before := show(d)
				e := run(d, moves[i].line)
				after := show(d)
				if failed := e == api.ErrDown && !strings.HasSuffix(before, " down"); failed != (!strings.HasSuffix(before, " down") && d.Down()) {
					t.Fatalf("%v, %s: %d, from %q to %q", script, moves[i].line, e, before, after)
				} else if e != api.OK && !failed && before != after {
					t.Fatalf("%v, %s: %d, but %q became %q", script, moves[i].line, e, before, after)
				}
				all += strconv.Itoa(int(e)) + " " + after + "; "
			}
			if first != "" && first != all {
				t.Fatalf("%v: first %q, then %q", script, first, all)
			}
			first = all
		}
	})
}

// R3: what is given in and what is handed out shares nothing with the disk.
func TestSharesNothing(t *testing.T) {
	d := New(100)
	in := []byte("abcdef--------")[:6]
	d.Append("a", in)
	d.Append("b", in)
	d.Append("b", in)
	in[0] = 'X'
	d.Append("a", []byte("gh"))
	if got := string(in[:14]); got != "Xbcdef--------" {
		t.Errorf("the argument became %q", got)
	}
	out, _ := d.Read("a")
	clear(out)
	_ = append(out, "zzzzzzzz"...)
	d.Append("a", []byte("i"))
	files := d.Files()
	files[0] = "q"
	l := []Left{{2, true}, {1, false}}
	d.Sync("b")
	d.Crash(l)
	if !slices.Equal(l, []Left{{2, true}, {1, false}}) {
		t.Errorf("the argument became %v", l)
	}
	if got, want := show(d), "a=ab.......| b=abcdefabcdef| 21"; got != want {
		t.Errorf("got %q, want %q", got, want)
	}
	before, _ := d.Read("b")
	d.Cut("b", 3)
	d.Append("b", []byte("xyz"))
	d.Crash([]Left{{}, {0, true}})
	if string(before) != "abcdefabcdef" {
		t.Errorf("what was read became %q", before)
	}
}

// R5: two disks have nothing in common.
func TestTwoDisks(t *testing.T) {
	one, other := New(10), New(10)
	run(one, "append a abc")
	run(one, "arm 0")
	run(one, "sync a")
	if got := show(other); got != "0" {
		t.Errorf("got %q", got)
	}
	if e := run(other, "append b xy"); e != api.OK || show(one) != "a=|abc 3 down" {
		t.Errorf("%d, %q", e, show(one))
	}
}

// R1: no call panics, on no disk either. A nil one is down for good, and the zero value has no room.
func TestOddDisks(t *testing.T) {
	var none *Disk
	for call, e := range calls(none, "a") {
		if e != api.ErrDown {
			t.Errorf("nil, %s: got %d", call, e)
		}
	}
	none.Arm(1)
	none.Crash([]Left{{1, true}})
	if b, e := none.Read("a"); b != nil || e != api.ErrNone || show(none) != "0 down" || none.Sure("a") != 0 {
		t.Errorf("nil: %q, %d, %q", b, e, show(none))
	}
	var zero Disk
	zero.Crash(nil)
	for _, line := range []string{"drop a", "move a b", "sync a"} {
		if e := run(&zero, line); e != api.ErrNone {
			t.Errorf("zero, %s: got %d", line, e)
		}
	}
	if e := zero.Append("a", []byte("x")); e != api.ErrFull {
		t.Errorf("zero: got %d", e)
	}
	if e := zero.Append("a", nil); e != api.OK || show(&zero) != "a=| 0" {
		t.Errorf("zero: got %d, %q", e, show(&zero))
	}
}

// R1: the greatest disk takes and loses its bytes, again and again.
func TestGreatDisk(t *testing.T) {
	const room = 1 << 20
	d, half := New(room), bytes.Repeat([]byte("ab"), room/4)
	for range 20 {
		if d.Append("a", half) != api.OK || d.Sync("a") != api.OK || d.Append("b", half) != api.OK || d.Append("a", half[:1]) != api.ErrFull {
			t.Fatal("it doesn't take its bytes")
		}
		d.Crash([]Left{{0, true}, {3, false}})
		if d.Sure("a") != room/2 || d.Sure("b") != 3 || d.Used() != room/2+3 {
			t.Fatalf("%d and %d sure bytes, %d used", d.Sure("a"), d.Sure("b"), d.Used())
		}
		if b, e := d.Read("a"); e != api.OK || !bytes.Equal(b, half) {
			t.Fatal("sure bytes were lost")
		}
		if d.Cut("a", 0) != api.OK || d.Drop("b") != api.OK || d.Used() != 0 {
			t.Fatal("its bytes don't go")
		}
	}
}
