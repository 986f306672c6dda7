package name

import (
	"math"
	"slices"
	"strings"
	"testing"
	"unicode/utf8"

	"provost/api"
)

// span is a row of runes, its ends among them.
type span struct{ from, to rune }

// forbidden are the runes that no name contains, as the chapter's words have them, and those that no string has validly.
var forbidden = []span{{0, 0x20}, {0x7F, 0xA0}, {0x2028, 0x2029}, {0xD800, 0xDFFF}, {0xFFFD, 0xFFFD}}

func isForbidden(r rune) bool {
	return slices.ContainsFunc(forbidden, func(s span) bool { return s.from <= r && r <= s.to })
}

// unit is a rune of a string as the library's decoder tells it: with its bytes, and whether it is invalid.
type unit struct {
	r       rune
	bytes   string
	invalid bool
}

func units(s string) []unit {
	var l []unit
	for len(s) > 0 {
		r, width := utf8.DecodeRuneInString(s)
		l = append(l, unit{r, s[:width], r == utf8.RuneError && width == 1})
		s = s[width:]
	}
	return l
}

// isName is May by the chapter's words, over all runes one by one.
func isName(s string) bool {
	l := units(s)
	bad := slices.ContainsFunc(l, func(u unit) bool { return u.invalid || isForbidden(u.r) })
	return 1 <= len(l) && len(l) <= 24 && !bad && s[0] != '-'
}

// pieces are runes of one to four bytes, and bytes that are invalid, but for some that make a rune side by side.
var pieces = []string{"a", "A", "b", "-", "é", "中", "😀", "\uFFFD", "\xff", "\xe4", "\xb8", "\xad"}

// pool is all strings of at most three pieces.
func pool() []string {
	all, last := []string{""}, []string{""}
	for range 3 {
		var longer []string
		for _, s := range last {
			for _, p := range pieces {
				longer = append(longer, s+p)
			}
		}
		all, last = append(all, longer...), longer
	}
	slices.Sort(all)
	return slices.Compact(all)
}

// names are names of all kinds, MaxName runes of one to four bytes and both ends of what is forbidden among them.
func names() []string {
	l := []string{"a", "Z", "Web-1", "a-", "a--b", "!", "~", "¡", "\u2027", "\u202A", "\uFFFC", "\uFFFE", "\uFFFF", "\U00010000", "\U0010FFFF", "n0", "0", "ÄÖÜ", "@[`{", "\u2010a", "\u212A", "\u0130", "\u1E9E"}
	for _, r := range []string{"a", "Z", "é", "中", "😀"} {
		l = append(l, strings.Repeat(r, 23), strings.Repeat(r, 24))
	}
	return l
}

// wrong are strings that are no names.
func wrong() []string {
	l := []string{"", "-", "-a", "--", "-" + strings.Repeat("a", 23), " ", "a b", " a", "a ", "\t", "a\n", "a\x00", "\x7f", "\u0080", "\u009F", "\u00A0", "a\u00A0", "\u2028", "a\u2028b", "\u2029", "\uFFFD", "a\uFFFD", "\uFFFDa"}
	for _, r := range []string{"a", "é", "中", "😀"} {
		l = append(l, strings.Repeat(r, 25), strings.Repeat(r, 26), strings.Repeat(r, 5000))
	}
	return append(l, malformed()...)
}

// malformed are strings whose bytes aren't all valid UTF-8: each of them at the start, inside and at the end of others.
func malformed() []string {
	l := []string{"\xc0\x80", "\xc1\xbf", "\xe0\x80\x80", "\xe0\x9f\xbf", "\xf0\x80\x80\x80", "\xed\xa0\x80", "\xed\xbf\xbf", "\xf4\x90\x80\x80", "\xf8\x88\x80\x80\x80", "\xe4\xb8", "\xf0\x9f\x98", "\xef\xbf", "\xef", "\xef\xbf\xff"}
	for b := 0x80; b <= 0xFF; b++ {
		l = append(l, string([]byte{byte(b)}))
	}
	for _, s := range slices.Clone(l) {
		l = append(l, "a"+s, s+"a", "é"+s+"é", "\uFFFD"+s, s+"\uFFFD", strings.Repeat("a", 23)+s, strings.Repeat("a", 24)+s)
	}
	return l
}

// P4.1: names and strings that are none.
func TestMay(t *testing.T) {
	for _, s := range names() {
		if !May(s) {
			t.Errorf("%q is no name", s)
		}
	}
	for _, s := range wrong() {
		if May(s) {
			t.Errorf("%q is a name", s)
		}
	}
	for _, s := range pool() {
		if got := May(s); got != isName(s) {
			t.Errorf("%q: got %t", s, got)
		}
	}
}

// P4.1: each rune by itself, behind another one, and at the end of a name of MaxName runes.
func TestMayOfEachRune(t *testing.T) {
	front := strings.Repeat("a", 23)
	for r := rune(0); r <= utf8.MaxRune; r++ {
		if !utf8.ValidRune(r) {
			continue
		}
		want := !isForbidden(r)
		if got := May(string(r)); got != (want && r != '-') {
			t.Errorf("U+%04X: got %t", r, got)
		}
		if got := May("a" + string(r)); got != want {
			t.Errorf("a and U+%04X: got %t", r, got)
		}
		if got := May(front + string(r)); got != want {
			t.Errorf("23 runes and U+%04X: got %t", r, got)
		}
	}
}

// P4.1: how many runes there are, not how many bytes, and whether one is invalid; an encoded U+FFFD is not.
func TestRunes(t *testing.T) {
	for _, c := range []struct {
		s     string
		n     int
		valid bool
	}{
		{"", 0, true},
		{"a", 1, true},
		{"Web-1", 5, true},
		{"a b\x00\n", 5, true},
		{"aé中😀", 4, true},
		{strings.Repeat("中", 24), 24, true},
		{strings.Repeat("é", 25), 25, true},
		{strings.Repeat("😀", 100000), 100000, true},
		{"\uFFFD", 1, true},
		{"\uFFFD\uFFFD", 2, true},
		{"\xff", 1, false},
		{"\xff\xff", 2, false},
		{"a\xff", 2, false},
		{"\xffa", 2, false},
		{"\xffa\uFFFD", 3, false},
		{"\uFFFD\xff", 2, false},
		{"\xff\uFFFD", 2, false},
		{"\xef", 1, false},
		{"\xef\xbf", 2, false},
		{"\xef\xef\xbf\xbd", 2, false},
		{"\xef\xbf\xbd\xbd", 2, false},
		{"\xed\xa0\x80", 3, false},
		{"\xc0\x80", 2, false},
		{"\xf4\x90\x80\x80", 4, false},
		{"\xf0\x9f\x98", 3, false},
		{"\xf0\x9f\x98a", 4, false},
		{strings.Repeat("a", 100000) + "\x80", 100001, false},
	} {
		if n, valid := Runes(c.s); n != c.n || valid != c.valid {
			t.Errorf("%.40q: got %d and %t, want %d and %t", c.s, n, valid, c.n, c.valid)
		}
	}
}

// P4.1: the runes are those that the library's decoder finds.
func TestRunesOfAll(t *testing.T) {
	for _, s := range slices.Concat(pool(), names(), wrong()) {
		l := units(s)
		want := !slices.ContainsFunc(l, func(u unit) bool { return u.invalid })
		if n, valid := Runes(s); n != len(l) || valid != want {
			t.Errorf("%q: got %d and %t, want %d and %t", s, n, valid, len(l), want)
		}
	}
}

// P4.1: the letters A to Z are made small, and nothing else is.
func TestKey(t *testing.T) {
	for _, c := range [][2]string{
		{"Web-1", "web-1"},
		{"a", "a"},
		{"A", "a"},
		{"ABCDEFGHIJKLMNOPQRSTUVWX", "abcdefghijklmnopqrstuvwx"},
		{"YZyz", "yzyz"},
		{"abcdefghijklmnopqrstuvwx", "abcdefghijklmnopqrstuvwx"},
		{"@A[Z`a{z", "@a[z`a{z"},
		{"0-9_!~¡", "0-9_!~¡"},
		{"AÄÉΣЖaäéσж", "aÄÉΣЖaäéσж"},
		{"\u212A", "\u212A"},
		{"\u0130I\u0131\u017FS", "\u0130i\u0131\u017Fs"},
		{"Aé中😀Z", "aé中😀z"},
		{strings.Repeat("Z", 24), strings.Repeat("z", 24)},
		{strings.Repeat("😀", 23) + "Q", strings.Repeat("😀", 23) + "q"},
	} {
		if k, e := Key(c[0]); k != c[1] || e != api.OK {
			t.Errorf("%q: got %q and %d, want %q", c[0], k, e, c[1])
		}
	}
	for r := rune(0x21); r < 0x7F; r++ {
		want := "x" + string(r)
		if i := strings.IndexRune("ABCDEFGHIJKLMNOPQRSTUVWXYZ", r); i >= 0 {
			want = "x" + "abcdefghijklmnopqrstuvwxyz"[i:i+1]
		}
		if k, e := Key("X" + string(r)); k != want || e != api.OK {
			t.Errorf("X%c: got %q and %d, want %q", r, k, e, want)
		}
	}
}

// P4.1: what is no name has no key.
func TestKeyOfNoName(t *testing.T) {
	for _, s := range append(wrong(), pool()...) {
		if isName(s) {
			continue
		}
		if k, e := Key(s); k != "" || e != api.ErrName {
			t.Errorf("%q: got %q and %d", s, k, e)
		}
	}
}

// P4.2: the first runes of ordinary strings and of others, with numbers below 1 and at and above the count of runes.
func TestCut(t *testing.T) {
	for _, c := range []struct {
		s    string
		n    int
		want string
	}{
		{"äöü", 2, "äö"},
		{"äöü", 3, "äöü"},
		{"äöü", 4, "äöü"},
		{"äöü", math.MaxInt, "äöü"},
		{"äöü", 1, "ä"},
		{"äöü", 0, ""},
		{"äöü", -1, ""},
		{"äöü", math.MinInt, ""},
		{"", 0, ""},
		{"", 1, ""},
		{"", -1, ""},
		{"", math.MaxInt, ""},
		{"", math.MinInt, ""},
		{"aé中😀b", 4, "aé中😀"},
		{"a b\nc", 4, "a b\n"},
		{"\xffa\uFFFDb", 1, "\xff"},
		{"\xffa\uFFFDb", 3, "\xffa\uFFFD"},
		{"\xed\xa0\x80", 2, "\xed\xa0"},
		{"\xe4\xb8", 1, "\xe4"},
		{"\xe4\xb8", 2, "\xe4\xb8"},
		{"WebÄ", 4, "WebÄ"},
	} {
		if got := Cut(c.s, c.n); got != c.want {
			t.Errorf("%q, %d: got %q, want %q", c.s, c.n, got, c.want)
		}
	}
}

// P4.2: the bytes of the first runes, whatever they are, stay as they are.
func TestCutOfAll(t *testing.T) {
	for _, s := range slices.Concat(pool(), names(), wrong()) {
		l, want := units(s), ""
		for n := range len(l) + 2 {
			if got := Cut(s, n); got != want {
				t.Fatalf("%q, %d: got %q, want %q", s, n, got, want)
			}
			if n < len(l) {
				want += l[n].bytes
			}
		}
		for _, n := range []int{-1, -len(s), math.MinInt} {
			if got := Cut(s, n); got != "" {
				t.Errorf("%q, %d: got %q", s, n, got)
			}
		}
		if got := Cut(s, math.MaxInt); got != s {
			t.Errorf("%q: got %q of it all", s, got)
		}
	}
}

// P4.2: the first runes that differ tell, or else how many there are.
func TestLess(t *testing.T) {
	for _, c := range [][2]string{
		{"", "a"},
		{"", "\x00"},
		{"", "\xff"},
		{"a", "b"},
		{"A", "a"},
		{"a", "aa"},
		{"a", "a\x00"},
		{"ab", "b"},
		{"aaaz", "aab"},
		{"Z", "a"},
		{"z", "ä"},
		{"~", "é"},
		{"é", "中"},
		{"中", "😀"},
		{"\uFFFF", "\U00010000"},
		{"\U00010000", "\U0010FFFF"},
		{"中", "中a"},
		{"中a", "中b"},
		{"ä", "\xff"},
		{"\uFFFC", "\x80"},
		{"\xff", "\uFFFE"},
		{"\xff", "\U00010000"},
		{"\x80", "\xff\x80"},
		{"\uFFFD", "\xff\x80"},
		{"\xff", "\uFFFD\x00"},
		{"\xffa", "\x80b"},
		{"\xffa", "\uFFFDb"},
		{"\uFFFDa", "\xffb"},
		{"\xed\xa0", "\xed\xa0\x80"},
		{"\uFFFD\xff", "\xed\xa0\x80"},
		{strings.Repeat("a", 100000), strings.Repeat("a", 100001)},
		{strings.Repeat("中", 100000) + "a", strings.Repeat("中", 100000) + "b"},
	} {
		if !Less(c[0], c[1]) {
			t.Errorf("%.40q isn't less than %.40q", c[0], c[1])
		}
		if Less(c[1], c[0]) {
			t.Errorf("%.40q is less than %.40q", c[1], c[0])
		}
	}
}

// P4.2: strings of the same runes, whatever their bytes, are neither less than the other.
func TestLessOfSameRunes(t *testing.T) {
	for _, c := range [][2]string{
		{"", ""}, {"a", "a"}, {"Web-1", "Web-1"}, {"😀", "😀"}, {"\xff", "\xff"},
		{"\xff", "\x80"}, {"\xff", "\uFFFD"}, {"a\xffb", "a\uFFFDb"}, {"\xed\xa0\x80", "\uFFFD\xff\xfe"},
	} {
		if Less(c[0], c[1]) || Less(c[1], c[0]) {
			t.Errorf("%q and %q: one is less", c[0], c[1])
		}
	}
}

// P4.2: each two strings of the pool are in the order of their runes.
func TestLessOfAll(t *testing.T) {
	all := pool()
	runes := make([][]rune, len(all))
	for i, s := range all {
		runes[i] = []rune(s)
	}
	for i, a := range all {
		for k, b := range all {
			if got := Less(a, b); got != (slices.Compare(runes[i], runes[k]) < 0) {
				t.Fatalf("%q and %q: got %t", a, b, got)
			}
		}
	}
}

// P4.3: a key is a name, and its own key.
func TestKeyIsItsOwn(t *testing.T) {
	for _, s := range append(names(), pool()...) {
		if !isName(s) {
			continue
		}
		k, e := Key(s)
		if e != api.OK || !May(k) {
			t.Errorf("%q: got %q and %d, which is no name", s, k, e)
		}
		if again, e := Key(k); again != k || e != api.OK {
			t.Errorf("%q: the key of %q is %q, %d", s, k, again, e)
		}
	}
}

// P4.3: of two different strings without invalid runes, one is less.
func TestOneIsLess(t *testing.T) {
	var all []string
	for _, s := range append(pool(), names()...) {
		if _, valid := Runes(s); valid {
			all = append(all, s)
		}
	}
	for _, a := range all {
		for _, b := range all {
			if forth, back := Less(a, b), Less(b, a); forth && back || (forth || back) != (a != b) {
				t.Fatalf("%q and %q: got %t and %t", a, b, forth, back)
			}
		}
	}
}

// P4.3: what begins a name is a name, unless it is empty.
func TestPrefixIsName(t *testing.T) {
	for _, s := range append(names(), pool()...) {
		if !isName(s) {
			continue
		}
		count, _ := Runes(s)
		for n := 1; n <= count; n++ {
			p := Cut(s, n)
			if got, valid := Runes(p); got != n || !valid || !strings.HasPrefix(s, p) {
				t.Errorf("%q, %d: got %q of %d runes", s, n, p, got)
			}
			if !May(p) {
				t.Errorf("%q, which begins %q, is no name", p, s)
			}
		}
		if May(Cut(s, 0)) {
			t.Errorf("%q: nothing of it is a name", s)
		}
	}
}

// R4: the same calls answer the same, and May goes no further than it has to.
func TestAgain(t *testing.T) {
	great := strings.Repeat("😀", 1<<22)
	for range 1000 {
		if May(great) || Cut(great, 2) != "😀😀" || Less(great, "a") || !Less("a", great) {
			t.Fatal("another answer")
		}
		if k, e := Key(great); k != "" || e != api.ErrName {
			t.Fatalf("got %.40q and %d", k, e)
		}
	}
}
