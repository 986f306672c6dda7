package cmd

import (
	"math"
	"slices"
	"strconv"
	"strings"
	"testing"
	"unicode/utf8"

	"provost/api"
)

const (
	top    = math.MaxInt64
	bottom = math.MinInt64
)

// Texts, Vecs and numbers at the edges of what may be.
var (
	names    = []string{"a", "A", "Web-1", "a-", "ä", "\U0001F600", strings.Repeat("n", api.MaxName), strings.Repeat("\U0001F600", api.MaxName)}
	notNames = []string{"-", "-a", "a b", " ", "a\x00", "\x7f", "\u00a0", "\u2028", "\ufffd", "\xff", "a\xc3", strings.Repeat("n", api.MaxName+1), strings.Repeat("n", api.MaxText)}

	vecs    = []api.Vec{{1, 2, 3}, {0, 0, 1}, {0, 1, 0}, {1, 0, 0}, {300, 0, 1 << 32}, {top, top, top}, {top, 0, 0}}
	notVecs = []api.Vec{{-1, 0, 0}, {0, -1, 0}, {0, 0, -1}, {1, 2, -3}, {bottom, 1, 1}, {bottom, bottom, bottom}, {top, -1, top}}

	numbers = []int64{0, 1, 2, 3, -1, -2, 4, 255, 256, 257, 1 << 32, 1<<32 + 1, top, top - 1, bottom, bottom + 1}

	notOps = []int{0, -1, -2, 11, 12, 13, 64, 255, 256, 257, 266, math.MinInt32, math.MaxInt32, math.MinInt, math.MaxInt}
)

// row is a line of the chapter's table: the commands, the fields that they have behind Name, and the numbers that N
// may be.
type row struct {
	ops     []int
	of, vec bool
	n       []int64
}

// table is the chapter's one, written down in numbers.
func table() []row {
	return []row{
		{[]int{1, 4}, false, true, []int64{0}},
		{[]int{2}, false, false, []int64{0, 1}},
		{[]int{3, 6, 8, 9, 10}, false, false, []int64{0}},
		{[]int{5}, true, true, []int64{0}},
		{[]int{7}, true, false, []int64{1, 2}},
	}
}

// isName is chapter 4's account of a name.
func isName(s string) bool {
	forbidden := func(r rune) bool {
		return r < 0x21 || r >= 0x7f && r <= 0xa0 || r == 0x2028 || r == 0x2029 || r == 0xfffd
	}
	n := utf8.RuneCountInString(s)
	return n >= 1 && n <= 24 && utf8.ValidString(s) && !strings.ContainsFunc(s, forbidden) && s[0] != '-'
}

// valid is what the table says of c.
func valid(c api.Cmd) bool {
	for _, r := range table() {
		if !slices.Contains(r.ops, c.Op) {
			continue
		}
		of := c.Of == "" && !r.of || isName(c.Of) && r.of
		vec := c.V == api.Vec{} || slices.Min(c.V[:]) >= 0 && r.vec
		return isName(c.Name) && of && vec && slices.Contains(r.n, c.N)
	}
	return false
}

// query is what the chapter says of c.
func query(c api.Cmd) bool { return valid(c) && c.Op >= 8 && c.Op <= 10 }

// samples are valid commands, each of the table's fields with each of its values.
func samples() []api.Cmd {
	var l []api.Cmd
	for _, r := range table() {
		ofs, vs := []string{""}, []api.Vec{{}}
		if r.of {
			ofs = names
		}
		if r.vec {
			vs = append(vs, vecs...)
		}
		for _, op := range r.ops {
			for _, name := range names {
				for _, of := range ofs {
					for _, v := range vs {
						for _, n := range r.n {
							l = append(l, api.Cmd{Op: op, Name: name, Of: of, V: v, N: n})
						}
					}
				}
			}
		}
	}
	return l
}

// few are valid commands, one or two of each Op.
func few() []api.Cmd {
	var l []api.Cmd
	for _, r := range table() {
		for _, op := range r.ops {
			for _, n := range r.n {
				c := api.Cmd{Op: op, Name: "Web-1", N: n}
				if r.of {
					c.Of = "ä"
				}
				if r.vec {
					c.V = api.Vec{1, 300, 0}
				}
				l = append(l, c)
			}
		}
	}
	return l
}

func show(c api.Cmd) string {
	n := func(n int64) string { return strconv.FormatInt(n, 10) }
	return strings.Join([]string{strconv.Itoa(c.Op), strconv.QuoteToASCII(c.Name), strconv.QuoteToASCII(c.Of), n(c.V[0]), n(c.V[1]), n(c.V[2]), n(c.N)}, " ")
}

// checkValid checks that c is told to be a valid command, and goes there and back.
func checkValid(t *testing.T, c api.Cmd) {
	t.Helper()
	if !May(c) {
		t.Errorf("%s: not May", show(c))
	}
	if Asks(c) != (c.Op >= 8) {
		t.Errorf("%s: Asks: %t", show(c), Asks(c))
	}
	s, e := Encode(c)
	if want := written(c); e != api.OK || s != want {
		t.Errorf("%s: Encode: %x, %d, not %x", show(c), s, e, want)
	}
	if got, e := Decode(written(c)); e != api.OK || got != c {
		t.Errorf("%s: Decode: %s, %d", show(c), show(got), e)
	}
}

// checkInvalid checks that c is told to be none, and that the bytes that it would have are refused.
func checkInvalid(t *testing.T, c api.Cmd) {
	t.Helper()
	if May(c) {
		t.Errorf("%s: May", show(c))
	}
	if Asks(c) {
		t.Errorf("%s: Asks", show(c))
	}
	if s, e := Encode(c); e != api.ErrForm || s != "" {
		t.Errorf("%s: Encode: %x, %d", show(c), s, e)
	}
	checkRefused(t, show(c), written(c))
}

// checkRefused checks that s is no command's encoding.
func checkRefused(t *testing.T, what, s string) {
	t.Helper()
	if c, e := Decode(s); e != api.ErrForm || c != (api.Cmd{}) {
		t.Errorf("%s: Decode of %.60x: %s, %d, not ErrForm", what, s, show(c), e)
	}
}

// check checks c by what the table says of it.
func check(t *testing.T, c api.Cmd) {
	t.Helper()
	if valid(c) {
		checkValid(t, c)
	} else {
		checkInvalid(t, c)
	}
}

// P9.1, P9.3: each command with each of its fields' values is valid, and goes there and back.
func TestValid(t *testing.T) {
	for _, c := range append(samples(), few()...) {
		if !valid(c) {
			t.Fatalf("%s: not valid", show(c))
		}
		checkValid(t, c)
	}
}

// P9.1: the rows of the chapter's table, each with what it has and with what it hasn't.
func TestRows(t *testing.T) {
	v := api.Vec{1, 2, 3}
	for _, c := range []struct {
		c         api.Cmd
		may, asks bool
	}{
		{api.Cmd{Op: api.CmdNode, Name: "a", V: v}, true, false},
		{api.Cmd{Op: api.CmdNode, Name: "a"}, true, false},
		{api.Cmd{Op: api.CmdNode, Name: "a", V: v, N: 1}, false, false},
		{api.Cmd{Op: api.CmdNode, Name: "a", Of: "b", V: v}, false, false},
		{api.Cmd{Op: api.CmdTenant, Name: "a", V: v}, true, false},
		{api.Cmd{Op: api.CmdTenant, Name: "a", V: api.Vec{0, 0, -1}}, false, false},
		{api.Cmd{Op: api.CmdTenant, Name: "a", Of: "b", V: v}, false, false},
		{api.Cmd{Op: api.CmdDrain, Name: "a"}, true, false},
		{api.Cmd{Op: api.CmdDrain, Name: "a", N: 1}, true, false},
		{api.Cmd{Op: api.CmdDrain, Name: "a", N: 2}, false, false},
		{api.Cmd{Op: api.CmdDrain, Name: "a", N: -1}, false, false},
		{api.Cmd{Op: api.CmdDrain, Name: "a", N: 1, V: v}, false, false},
		{api.Cmd{Op: api.CmdDrop, Name: "a"}, true, false},
		{api.Cmd{Op: api.CmdDrop, Name: "a", N: 1}, false, false},
		{api.Cmd{Op: api.CmdKill, Name: "a"}, true, false},
		{api.Cmd{Op: api.CmdKill, Name: "a b"}, false, false},
		{api.Cmd{Op: api.CmdKill, Name: "a", N: 1}, false, false},
		{api.Cmd{Op: api.CmdKill, Name: "a", Of: "b"}, false, false},
		{api.Cmd{Op: api.CmdSubmit, Name: "a", Of: "b", V: v}, true, false},
		{api.Cmd{Op: api.CmdSubmit, Name: "a", Of: "b"}, true, false},
		{api.Cmd{Op: api.CmdSubmit, Name: "a", V: v}, false, false},
		{api.Cmd{Op: api.CmdSubmit, Of: "b", V: v}, false, false},
		{api.Cmd{Op: api.CmdSubmit, Name: "a", Of: "b", V: v, N: 1}, false, false},
		{api.Cmd{Op: api.CmdReport, Name: "a", Of: "b", N: api.JobRunning}, true, false},
		{api.Cmd{Op: api.CmdReport, Name: "a", Of: "b", N: api.JobFailed}, true, false},
		{api.Cmd{Op: api.CmdReport, Name: "a", Of: "b", N: api.JobPlaced}, false, false},
		{api.Cmd{Op: api.CmdReport, Name: "a", Of: "b", N: 3}, false, false},
		{api.Cmd{Op: api.CmdReport, Name: "a", Of: "b", N: 1, V: v}, false, false},
		{api.Cmd{Op: api.CmdReport, Name: "a", N: 1}, false, false},
		{api.Cmd{Op: api.CmdJob, Name: "a"}, true, true},
		{api.Cmd{Op: api.CmdUsed, Name: "a"}, true, true},
		{api.Cmd{Op: api.CmdSpent, Name: "a"}, true, true},
		{api.Cmd{Op: api.CmdJob, Name: "-"}, false, false},
		{api.Cmd{Op: api.CmdUsed}, false, false},
		{api.Cmd{Op: api.CmdSpent, Name: "a", N: 1}, false, false},
		{api.Cmd{}, false, false},
	} {
		if May(c.c) != c.may || Asks(c.c) != c.asks || valid(c.c) != c.may || query(c.c) != c.asks {
			t.Errorf("%s: %t, %t, not %t, %t", show(c.c), May(c.c), Asks(c.c), c.may, c.asks)
		}
		check(t, c.c)
	}
}

// P9.1: whatever the fields are, together they are what the table says.
func TestAllFields(t *testing.T) {
	ops := append([]int{1, 2, 3, 4, 5, 6, 7, 8, 9, 10}, 0, -1, 11, 257)
	someNames := []string{"", "a", "Web-1", "-a", "a b", "\xff", strings.Repeat("n", api.MaxName+1)}
	someVecs := []api.Vec{{}, {1, 2, 3}, {top, top, top}, {0, 0, 1}, {-1, 0, 0}, {0, -1, 0}, {0, 0, bottom}}
	someNumbers := []int64{0, 1, 2, 3, -1, 1 << 32, bottom, top}
	for _, op := range ops {
		for _, name := range someNames {
			for _, of := range someNames {
				for _, v := range someVecs {
					for _, n := range someNumbers {
						check(t, api.Cmd{Op: op, Name: name, Of: of, V: v, N: n})
					}
				}
			}
		}
	}
}

// The tests' own account of names and Vecs holds the edges for what they are.
func TestAccount(t *testing.T) {
	for k, s := range slices.Concat(names, notNames) {
		if isName(s) != (k < len(names)) {
			t.Errorf("%q: %t", s, isName(s))
		}
	}
	for k, v := range slices.Concat(vecs, notVecs) {
		c := api.Cmd{Op: api.CmdNode, Name: "a", V: v}
		if valid(c) != (k < len(vecs)) {
			t.Errorf("%v: %t", v, valid(c))
		}
	}
}

// P9.1: a command in which one field alone is changed is what the table says, whichever field it is.
func TestOneField(t *testing.T) {
	for _, c := range few() {
		for _, op := range append(notOps, 1, 2, 3, 4, 5, 6, 7, 8, 9, 10) {
			d := c
			d.Op = op
			check(t, d)
		}
		for _, s := range slices.Concat(names, notNames, []string{""}) {
			d := c
			d.Name = s
			check(t, d)
			d = c
			d.Of = s
			check(t, d)
		}
		for _, v := range slices.Concat(vecs, notVecs, []api.Vec{{}}) {
			d := c
			d.V = v
			check(t, d)
		}
		for _, n := range numbers {
			d := c
			d.N = n
			check(t, d)
		}
	}
}

// P9.1: a number that isn't an Op is none with any fields.
func TestNoOps(t *testing.T) {
	for _, op := range notOps {
		for _, c := range few() {
			c.Op = op
			checkInvalid(t, c)
		}
	}
}

// P9.3: different commands have different encodings.
func TestUnlikeCommands(t *testing.T) {
	seen := map[string]api.Cmd{}
	for _, c := range samples() {
		s, _ := Encode(c)
		if other, taken := seen[s]; taken && other != c {
			t.Errorf("%s and %s: %x", show(c), show(other), s)
		}
		seen[s] = c
	}
	if len(seen) != len(samples()) {
		t.Errorf("%d encodings of %d commands", len(seen), len(samples()))
	}
}
