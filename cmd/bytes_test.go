package cmd

import (
	"encoding/binary"
	"encoding/hex"
	"math/rand"
	"slices"
	"strconv"
	"strings"
	"testing"

	"provost/api"
)

// The tests write bytes by an account of their own, so that they can write what no valid command or reply has too.

// count is the encoding of a count.
func count(n uint64) string {
	b := strings.TrimLeft(string(binary.BigEndian.AppendUint64(nil, n)), "\x00")
	return string(rune(len(b))) + b
}

// num is the encoding of a number.
func num(n int64) string {
	if n < 0 {
		return "\x01" + count(2*uint64(-(n+1))+1)
	}
	return "\x01" + count(2*uint64(n))
}

// txt is the encoding of a text.
func txt(s string) string { return "\x02" + count(uint64(len(s))) + s }

// lst is the encoding of a list of what has been encoded.
func lst(parts ...string) string {
	return "\x03" + count(uint64(len(parts))) + strings.Join(parts, "")
}

func nums(v api.Vec) string { return lst(num(v[0]), num(v[1]), num(v[2])) }

// written is the encoding that c would have if it were valid.
func written(c api.Cmd) string { return lst(commandParts(c)...) }

func commandParts(c api.Cmd) []string {
	return []string{num(int64(c.Op)), txt(c.Name), txt(c.Of), nums(c.V), num(c.N)}
}

// packed is the encoding that r would have if it might be packed.
func packed(r api.Reply) string { return lst(replyParts(r)...) }

func replyParts(r api.Reply) []string {
	return []string{num(int64(r.E)), txt(r.S), nums(r.V), num(r.N)}
}

// bytesOf reads hexadecimal digits with spaces between.
func bytesOf(t *testing.T, digits string) string {
	t.Helper()
	b, err := hex.DecodeString(strings.ReplaceAll(digits, " ", ""))
	if err != nil {
		t.Fatal(err)
	}
	return string(b)
}

// P9.1: what the encoding of a command looks like, byte by byte.
func TestCommandBytes(t *testing.T) {
	for _, c := range []struct {
		c      api.Cmd
		digits string
	}{
		{api.Cmd{Op: api.CmdNode, Name: "a", V: api.Vec{1, 300, 0}}, "030105 010102 02010161 0200 030103 010102 01020258 0100 0100"},
		{api.Cmd{Op: api.CmdDrain, Name: "ab"}, "030105 010104 0201026162 0200 030103 0100 0100 0100 0100"},
		{api.Cmd{Op: api.CmdDrain, Name: "ab", N: 1}, "030105 010104 0201026162 0200 030103 0100 0100 0100 010102"},
		{api.Cmd{Op: api.CmdDrop, Name: "A"}, "030105 010106 02010141 0200 030103 0100 0100 0100 0100"},
		{api.Cmd{Op: api.CmdTenant, Name: "a", V: api.Vec{0, 0, top}}, "030105 010108 02010161 0200 030103 0100 0100 0108fffffffffffffffe 0100"},
		{api.Cmd{Op: api.CmdSubmit, Name: "a", Of: "ä", V: api.Vec{1, 2, 3}}, "030105 01010a 02010161 020102c3a4 030103 010102 010104 010106 0100"},
		{api.Cmd{Op: api.CmdKill, Name: "a"}, "030105 01010c 02010161 0200 030103 0100 0100 0100 0100"},
		{api.Cmd{Op: api.CmdReport, Name: "a", Of: "b", N: api.JobRunning}, "030105 01010e 02010161 02010162 030103 0100 0100 0100 010102"},
		{api.Cmd{Op: api.CmdReport, Name: "a", Of: "b", N: api.JobFailed}, "030105 01010e 02010161 02010162 030103 0100 0100 0100 010104"},
		{api.Cmd{Op: api.CmdJob, Name: "a"}, "030105 010110 02010161 0200 030103 0100 0100 0100 0100"},
		{api.Cmd{Op: api.CmdUsed, Name: "a"}, "030105 010112 02010161 0200 030103 0100 0100 0100 0100"},
		{api.Cmd{Op: api.CmdSpent, Name: "a"}, "030105 010114 02010161 0200 030103 0100 0100 0100 0100"},
	} {
		b := bytesOf(t, c.digits)
		if s, e := Encode(c.c); e != api.OK || s != b {
			t.Errorf("%s: Encode: %x, %d, not %x", show(c.c), s, e, b)
		}
		if got, e := Decode(b); e != api.OK || got != c.c {
			t.Errorf("%x: Decode: %s, %d", b, show(got), e)
		}
		if written(c.c) != b {
			t.Errorf("%s: written as %x", show(c.c), written(c.c))
		}
	}
	for _, c := range []api.Cmd{{Op: api.CmdKill, Name: "a b"}, {Op: api.CmdKill, Name: "a", N: 1}} {
		checkInvalid(t, c)
	}
}

// P9.2: what the encoding of a reply looks like, byte by byte.
func TestReplyBytes(t *testing.T) {
	for _, c := range []struct {
		r      api.Reply
		digits string
	}{
		{api.Reply{}, "030104 0100 0200 030103 0100 0100 0100 0100"},
		{api.Reply{E: api.ErrRoom, S: "ab", V: api.Vec{1, -1, 300}, N: -2}, "030104 010118 0201026162 030103 010102 010101 01020258 010103"},
		{api.Reply{E: 255, S: "\xff\x00"}, "030104 010201fe 020102ff00 030103 0100 0100 0100 0100"},
		{api.Reply{V: api.Vec{bottom, 0, top}, N: bottom}, "030104 0100 0200 030103 0108ffffffffffffffff 0100 0108fffffffffffffffe 0108ffffffffffffffff"},
	} {
		b := bytesOf(t, c.digits)
		if s, e := Pack(c.r); e != api.OK || s != b {
			t.Errorf("%s: Pack: %x, %d, not %x", told(c.r), s, e, b)
		}
		if got, e := Unpack(b); e != api.OK || got != c.r {
			t.Errorf("%x: Unpack: %s, %d", b, told(got), e)
		}
		if packed(c.r) != b {
			t.Errorf("%s: packed as %x", told(c.r), packed(c.r))
		}
	}
}

// replaced returns parts with another one at k.
func replaced(parts []string, k int, part string) []string {
	l := slices.Clone(parts)
	l[k] = part
	return l
}

// misshapen returns encodings of items that are the list of these parts but for their shape. The parts at numbers and
// texts are numbers and texts, the one at vec is a Vec's list.
func misshapen(parts []string, numbers, texts []int, vec int) map[string]string {
	shapes := map[string]string{
		"no list: a number":      num(5),
		"no list: a text":        txt("a"),
		"no list: its text":      txt(lst(parts...)),
		"no parts":               lst(),
		"without the first part": lst(parts[1:]...),
		"without the last part":  lst(parts[:len(parts)-1]...),
		"a number more":          lst(slices.Concat(parts, []string{num(0)})...),
		"a text more":            lst(slices.Concat(parts, []string{txt("")})...),
		"a list more":            lst(slices.Concat(parts, []string{lst()})...),
		"a number ahead":         lst(slices.Concat([]string{num(0)}, parts)...),
		"in a list":              lst(lst(parts...)),
		"two in a list":          lst(lst(parts...), lst(parts...)),
	}
	put := func(what string, k int, part string) {
		shapes[what+", part "+strconv.Itoa(k)] = lst(replaced(parts, k, part)...)
	}
	for _, k := range numbers {
		put("a text for a number", k, txt(""))
		put("a number's bytes for it", k, txt(parts[k]))
		put("no elements for a number", k, lst())
		put("a list of the number", k, lst(parts[k]))
	}
	for _, k := range texts {
		put("a number for a text", k, num(0))
		put("no elements for a text", k, lst())
		put("a list of the text", k, lst(parts[k]))
	}
	put("a number for the Vec", vec, num(0))
	put("a text for the Vec", vec, txt(""))
	put("a Vec of none", vec, lst())
	put("a Vec of one", vec, lst(num(0)))
	put("a Vec of two", vec, lst(num(0), num(0)))
	put("a Vec of four", vec, lst(num(0), num(0), num(0), num(0)))
	put("a Vec in a list", vec, lst(parts[vec]))
	put("Vecs for the numbers", vec, lst(parts[vec], parts[vec], parts[vec]))
	for i := range api.Resources {
		at := func(part string) string { return lst(replaced([]string{num(0), num(0), num(0)}, i, part)...) }
		put("a Vec with a text at "+strconv.Itoa(i), vec, at(txt("")))
		put("a Vec with no elements at "+strconv.Itoa(i), vec, at(lst()))
		put("a Vec with a list at "+strconv.Itoa(i), vec, at(lst(num(0))))
	}
	return shapes
}

// P9.1: items of another shape are no command's.
func TestCommandShapes(t *testing.T) {
	for _, c := range few() {
		for what, s := range misshapen(commandParts(c), []int{0, 4}, []int{1, 2}, 3) {
			checkRefused(t, what, s)
		}
		p := commandParts(c)
		checkRefused(t, "parts the other way round", lst(p[4], p[3], p[2], p[1], p[0]))
		checkRefused(t, "the Vec ahead of the texts", lst(p[0], p[3], p[1], p[2], p[4]))
		checkRefused(t, "the number ahead of the Vec", lst(p[0], p[1], p[2], p[4], p[3]))
		checkRefused(t, "the numbers without their list", lst(p[0], p[1], p[2], num(0), num(0), num(0), p[4]))
	}
}

// P9.2: items of another shape are no reply's.
func TestReplyShapes(t *testing.T) {
	for _, r := range []api.Reply{{}, {E: api.ErrRoom, S: "ab", V: api.Vec{1, -1, 300}, N: -2}} {
		for what, s := range misshapen(replyParts(r), []int{0, 3}, []int{1}, 2) {
			checkUnpackable(t, what, s)
		}
		p := replyParts(r)
		checkUnpackable(t, "parts the other way round", lst(p[3], p[2], p[1], p[0]))
		checkUnpackable(t, "the Vec ahead of the text", lst(p[0], p[2], p[1], p[3]))
	}
}

// P9.1, P9.2: no command's encoding is a reply's, nor is any reply's a command's.
func TestOthersBytes(t *testing.T) {
	for _, c := range few() {
		checkUnpackable(t, "a command", written(c))
	}
	for _, r := range replies() {
		checkRefused(t, "a reply", packed(r))
	}
}

// strange are bytes that are no item's, and bytes of items that are far from any command or reply.
func strange() map[string]string {
	return map[string]string{
		"nothing":             "",
		"zero":                "\x00",
		"no kind":             "\x04\x00",
		"all ones":            strings.Repeat("\xff", 40),
		"zeros":               strings.Repeat("\x00", 40),
		"words":               "kill a",
		"a list cut short":    "\x03\x01\x05",
		"many lists":          strings.Repeat("\x03\x01\x01", 1<<16),
		"a long list":         lst(slices.Repeat([]string{num(0)}, api.MaxItems-1)...),
		"more than MaxItems":  lst(slices.Repeat([]string{num(0)}, 1<<13)...),
		"a long text":         txt(strings.Repeat("a", 1<<20)),
		"a list of 2^64 - 1":  "\x03\x08" + strings.Repeat("\xff", 8),
		"a text of MaxText":   txt(strings.Repeat("a", api.MaxText)),
		"five empty lists":    lst(lst(), lst(), lst(), lst(), lst()),
		"four empty lists":    lst(lst(), lst(), lst(), lst()),
		"five numbers":        lst(num(1), num(1), num(1), num(1), num(1)),
		"four numbers":        lst(num(0), num(0), num(0), num(0)),
		"five texts":          lst(txt("a"), txt("a"), txt("a"), txt("a"), txt("a")),
		"four texts":          lst(txt("a"), txt("a"), txt("a"), txt("a")),
		"five numbers 0":      lst(num(0), num(0), num(0), num(0), num(0)),
		"a number of 9 bytes": lst("\x01\x09"+strings.Repeat("\x01", 9), txt("a"), txt(""), nums(api.Vec{}), num(0)),
	}
}

// P9.1, P9.2: such bytes are refused.
func TestStrangeBytes(t *testing.T) {
	for what, s := range strange() {
		checkRefused(t, what, s)
		checkUnpackable(t, what, s)
	}
}

// P9.1, P9.2: an item that isn't encoded as it has to be is none, though its parts are right.
func TestOtherWriting(t *testing.T) {
	p := commandParts(api.Cmd{Op: api.CmdKill, Name: "a"})
	q := replyParts(api.Reply{S: "a"})
	for what, zero := range map[string]string{"zero as a byte": "\x01\x01\x00", "zero as two": "\x01\x02\x00\x00"} {
		checkRefused(t, what, lst(replaced(p, 4, zero)...))
		checkUnpackable(t, what, lst(replaced(q, 3, zero)...))
		checkUnpackable(t, what, lst(replaced(q, 0, zero)...))
	}
	checkRefused(t, "leading zero", lst(replaced(p, 0, "\x01\x02\x00\x0c")...))
	checkRefused(t, "long count", lst(replaced(p, 1, "\x02\x02\x00\x01a")...))
	checkRefused(t, "long count of a list", "\x03\x02\x00\x05"+strings.Join(p, ""))
	checkUnpackable(t, "leading zero", lst(replaced(q, 0, "\x01\x02\x00\x0c")...))
	checkUnpackable(t, "long count", lst(replaced(q, 1, "\x02\x02\x00\x01a")...))
	checkUnpackable(t, "long count of a list", "\x03\x02\x00\x04"+strings.Join(q, ""))
}

// P9.1: the bytes of a command cut short, with more bytes, or with a byte turned are refused, or another command's.
func TestCommandBytesChanged(t *testing.T) {
	for _, c := range few() {
		s := written(c)
		for n := range s {
			checkRefused(t, "cut short", s[:n])
			checkRefused(t, "cut in front", s[n+1:])
			readBack(t, s[:n]+s[n+1:])
		}
		for x := range 256 {
			checkRefused(t, "a byte behind", s+string([]byte{byte(x)}))
		}
		checkRefused(t, "twice", s+s)
		for k := range s {
			for x := range 256 {
				readBack(t, s[:k]+string([]byte{byte(x)})+s[k+1:])
			}
		}
	}
}

// readBack checks that s is refused, or read as a command whose bytes it is.
func readBack(t *testing.T, s string) {
	t.Helper()
	c, e := Decode(s)
	if e != api.OK {
		checkRefused(t, "changed", s)
		return
	}
	back, e := Encode(c)
	if e != api.OK || back != s || written(c) != s || !valid(c) {
		t.Errorf("%x: read as %s, which is written as %x, %d", s, show(c), back, e)
	}
}

// P9.2: likewise with the bytes of a reply.
func TestReplyBytesChanged(t *testing.T) {
	for _, r := range []api.Reply{{}, {E: 255, S: "a b", V: api.Vec{-1, 300, bottom}, N: 1 << 40}, {E: 128, S: "ä"}} {
		s := packed(r)
		for n := range s {
			checkUnpackable(t, "cut short", s[:n])
			checkUnpackable(t, "cut in front", s[n+1:])
			unpackBack(t, s[:n]+s[n+1:])
		}
		for x := range 256 {
			checkUnpackable(t, "a byte behind", s+string([]byte{byte(x)}))
		}
		checkUnpackable(t, "twice", s+s)
		for k := range s {
			for x := range 256 {
				unpackBack(t, s[:k]+string([]byte{byte(x)})+s[k+1:])
			}
		}
	}
}

// unpackBack checks that s is refused, or read as a reply whose bytes it is.
func unpackBack(t *testing.T, s string) {
	t.Helper()
	r, e := Unpack(s)
	if e != api.OK {
		checkUnpackable(t, "changed", s)
		return
	}
	back, e := Pack(r)
	if e != api.OK || back != s || packed(r) != s {
		t.Errorf("%x: read as %s, which is packed as %x, %d", s, told(r), back, e)
	}
}

// P9.1: with a byte turned in a place that counts, it is another command's encoding.
func TestTurnedCommands(t *testing.T) {
	s := written(api.Cmd{Op: api.CmdKill, Name: "a"})
	for what, c := range map[string]struct {
		at   int
		to   byte
		want api.Cmd
	}{
		"Op":   {5, 0x10, api.Cmd{Op: api.CmdJob, Name: "a"}},
		"Name": {9, 'B', api.Cmd{Op: api.CmdKill, Name: "B"}},
	} {
		b := []byte(s)
		b[c.at] = c.to
		if got, e := Decode(string(b)); e != api.OK || got != c.want {
			t.Errorf("%s: %s, %d", what, show(got), e)
		}
	}
	for n := range 256 { // all that an Op's byte may be where Of, V and N are zero
		b := []byte(s)
		b[5] = byte(n)
		want := slices.Contains([]int{2, 4, 6, 8, 12, 16, 18, 20}, n)
		if got, e := Decode(string(b)); (e == api.OK) != want {
			t.Errorf("Op's byte %d: %s, %d", n, show(got), e)
		}
	}
}

// P9.1, P9.2: bytes put together without a rule, of the pieces that commands and replies are made of.
func TestPiecesWithoutRule(t *testing.T) {
	r := rand.New(rand.NewSource(9))
	pieces := func() string {
		switch r.Intn(8) {
		case 0:
			return num(int64(r.Intn(14)) - 1)
		case 1:
			return num(int64(r.Uint64()) >> r.Intn(64))
		case 2:
			return txt(names[r.Intn(len(names))])
		case 3:
			return txt("")
		case 4:
			return txt(notNames[r.Intn(len(notNames))])
		case 5:
			return nums(api.Vec{})
		case 6:
			return nums(vecs[r.Intn(len(vecs))])
		}
		return nums(notVecs[r.Intn(len(notVecs))])
	}
	for range 50000 {
		var parts []string
		for range 4 + r.Intn(2) {
			parts = append(parts, pieces())
		}
		readBack(t, lst(parts...))
		unpackBack(t, lst(parts...))
	}
}
