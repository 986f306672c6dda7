package cmd

import (
	"fmt"
	"math"
	"math/rand"
	"strings"
	"testing"

	"provost/api"
)

var (
	errnos    = []api.Errno{0, 1, 2, api.ErrForm, api.ErrRoom, api.ErrDown, 42, 63, 64, 100, 127, 128, 254, 255}
	notErrnos = []api.Errno{-1, -2, -255, -256, 256, 257, 300, 511, 512, 1 << 16, math.MinInt32, math.MaxInt32, math.MinInt, math.MaxInt}
)

// texts are those that a reply may have: they count by bytes, and needn't be names or UTF-8.
func texts() []string {
	return []string{
		"", "a", "n0", "-", "a b", "\x00", "\xff\xfe", strings.Repeat("a", 255), strings.Repeat("a", 256),
		strings.Repeat("a", 999), strings.Repeat("a", 1000), strings.Repeat("\xff", 1000), strings.Repeat("ä", 500),
	}
}

// notTexts are too long.
func notTexts() []string {
	return []string{
		strings.Repeat("a", 1001), strings.Repeat("\x00", 1001), strings.Repeat("ä", 501), strings.Repeat("\u20ac", 334),
		strings.Repeat("a", 1024), strings.Repeat("a", api.MaxText), strings.Repeat("a", api.MaxText+1), strings.Repeat("a", 1<<20),
	}
}

// replies are such as may be packed.
func replies() []api.Reply {
	var l []api.Reply
	for _, e := range errnos {
		for _, s := range texts() {
			l = append(l, api.Reply{E: e, S: s}, api.Reply{E: e, S: s, V: api.Vec{1, -2, 3}, N: -7})
		}
	}
	for _, n := range numbers {
		l = append(l, api.Reply{N: n}, api.Reply{V: api.Vec{n}}, api.Reply{V: api.Vec{0, n}}, api.Reply{V: api.Vec{0, 0, n}})
	}
	return l
}

// told is r in ASCII, with no more of its text than can be read.
func told(r api.Reply) string { return fmt.Sprintf("%d %.60q %d %d", r.E, r.S, r.V, r.N) }

// checkReply checks that r is packed, and goes there and back.
func checkReply(t *testing.T, r api.Reply) {
	t.Helper()
	if s, e := Pack(r); e != api.OK || s != packed(r) {
		t.Errorf("%s: Pack: %.60x, %d, not %.60x", told(r), s, e, packed(r))
	}
	if got, e := Unpack(packed(r)); e != api.OK || got != r {
		t.Errorf("%s: Unpack: %s, %d", told(r), told(got), e)
	}
}

// checkNoReply checks that r can't be packed, and that the bytes that it would have are refused.
func checkNoReply(t *testing.T, r api.Reply) {
	t.Helper()
	if s, e := Pack(r); e != api.ErrForm || s != "" {
		t.Errorf("%s: Pack: %.60x, %d, not ErrForm", told(r), s, e)
	}
	checkUnpackable(t, "no reply", packed(r))
}

// checkUnpackable checks that s is no reply's encoding.
func checkUnpackable(t *testing.T, what, s string) {
	t.Helper()
	if r, e := Unpack(s); e != api.ErrForm || r != (api.Reply{}) {
		t.Errorf("%s: Unpack of %.60x: %s, %d, not ErrForm", what, s, told(r), e)
	}
}

// P9.2, P9.3: replies go there and back.
func TestReplies(t *testing.T) {
	for _, r := range replies() {
		checkReply(t, r)
	}
	for e := range api.Errno(256) {
		checkReply(t, api.Reply{E: e})
	}
	for n := range 1001 {
		checkReply(t, api.Reply{S: strings.Repeat("a", n)})
	}
}

// P9.2: E is from 0 to 255, and S has at most 1000 bytes.
func TestNoReplies(t *testing.T) {
	for _, e := range notErrnos {
		for _, s := range texts() {
			checkNoReply(t, api.Reply{E: e, S: s})
			checkNoReply(t, api.Reply{E: e, S: s, V: api.Vec{1, 2, 3}, N: 1})
		}
		for _, s := range notTexts() {
			checkNoReply(t, api.Reply{E: e, S: s})
		}
	}
	for _, s := range notTexts() {
		for _, e := range errnos {
			checkNoReply(t, api.Reply{E: e, S: s})
			checkNoReply(t, api.Reply{E: e, S: s, V: api.Vec{1, 2, 3}, N: 1})
		}
	}
}

// P9.2: unlike replies are packed as unlike bytes.
func TestUnlikeReplies(t *testing.T) {
	seen := map[string]api.Reply{}
	for _, r := range replies() {
		s, _ := Pack(r)
		if other, taken := seen[s]; taken && other != r {
			t.Errorf("%s and %s: %.60x", told(r), told(other), s)
		}
		seen[s] = r
	}
}

// P9.3: any commands and replies go there and back; the source is seeded, so that each run tests the same ones.
func TestThereAndBack(t *testing.T) {
	r := rand.New(rand.NewSource(1))
	number := func() int64 { return int64(r.Uint64()) >> r.Intn(64) }
	all := samples()
	for range 20000 {
		c := all[r.Intn(len(all))]
		for i := range c.V {
			if c.V[i] > 0 {
				c.V[i] = number() & top
			}
		}
		if s, e := Encode(c); e != api.OK || s != written(c) {
			t.Errorf("%s: %x, %d", show(c), s, e)
		} else if back, e := Decode(s); e != api.OK || back != c {
			t.Errorf("%s: back as %s, %d", show(c), show(back), e)
		}
		b := make([]byte, r.Intn(60))
		r.Read(b)
		checkReply(t, api.Reply{E: api.Errno(r.Intn(256)), S: string(b), V: api.Vec{number(), number(), number()}, N: number()})
	}
}
