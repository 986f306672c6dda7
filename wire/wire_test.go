package wire

import (
	"bytes"
	"encoding/hex"
	"math"
	"math/rand"
	"reflect"
	"slices"
	"strings"
	"testing"

	"provost/api"
)

func number(n int64) api.Item { return api.Item{Kind: api.Number, N: n} }

func text(s string) api.Item { return api.Item{Kind: api.Text, S: s} }

func list(l ...api.Item) api.Item { return api.Item{Kind: api.List, L: l} }

// deep returns an item of that depth, whose innermost element is i.
func deep(depth int, i api.Item) api.Item {
	for range depth - 1 {
		i = list(i)
	}
	return i
}

// wide returns a list that contains that many items, counting itself.
func wide(items int) api.Item {
	return list(slices.Repeat([]api.Item{number(0)}, items-1)...)
}

// long returns a text of that many bytes.
func long(n int) string { return strings.Repeat("x", n) }

// bytesOf reads hexadecimal digits with spaces between.
func bytesOf(t *testing.T, digits string) []byte {
	t.Helper()
	b, err := hex.DecodeString(strings.ReplaceAll(digits, " ", ""))
	if err != nil {
		t.Fatal(err)
	}
	return b
}

// tidied returns i with every empty L nil, because an empty slice and nil are equivalent.
func tidied(i api.Item) api.Item {
	var l []api.Item
	for _, e := range i.L {
		l = append(l, tidied(e))
	}
	i.L = l
	return i
}

func same(a, b api.Item) bool { return reflect.DeepEqual(tidied(a), tidied(b)) }

// checkPair checks that i is encoded as b, that Size knows it, and that b is decoded as i.
func checkPair(t *testing.T, name string, i api.Item, b []byte) {
	t.Helper()
	if got, e := Encode(i); e != api.OK || !bytes.Equal(got, b) {
		t.Errorf("%s: Encode: %.40x, %d, not %.40x", name, got, e, b)
	}
	if n := Size(i); n != len(b) {
		t.Errorf("%s: Size: %d, not %d", name, n, len(b))
	}
	if got, e := Decode(b); e != api.OK || !same(got, i) {
		t.Errorf("%s: Decode: %.40v, %d", name, got, e)
	}
}

// checkNone checks that i has no encoding, for that error.
func checkNone(t *testing.T, name string, i api.Item, want api.Errno) {
	t.Helper()
	if b, e := Encode(i); e != want || len(b) != 0 {
		t.Errorf("%s: Encode: %d bytes, %d, not %d", name, len(b), e, want)
	}
	if n := Size(i); n != 0 {
		t.Errorf("%s: Size: %d, not 0", name, n)
	}
}

// checkForm checks that b is refused.
func checkForm(t *testing.T, name string, b []byte) {
	t.Helper()
	if i, e := Decode(b); e != api.ErrForm || !reflect.DeepEqual(i, api.Item{}) {
		t.Errorf("%s: Decode of %.40x: %v, %d, not ErrForm", name, b, i, e)
	}
}

// P1.1, P1.2: what the encoding looks like, byte by byte.
func TestEncodings(t *testing.T) {
	for _, c := range []struct {
		name  string
		i     api.Item
		bytes string
	}{
		{"zero", number(0), "0100"},
		{"minus one", number(-1), "010101"},
		{"one", number(1), "010102"},
		{"minus two", number(-2), "010103"},
		{"300", number(300), "01020258"},
		{"the last of one byte", number(127), "0101fe"},
		{"the last below zero of one byte", number(-128), "0101ff"},
		{"the first of two bytes", number(128), "01020100"},
		{"the last of seven bytes", number(1<<55 - 1), "0107 fffffffffffffe"},
		{"the first of eight bytes", number(1 << 55), "0108 0100000000000000"},
		{"the greatest number", number(math.MaxInt64), "0108 fffffffffffffffe"},
		{"the smallest number", number(math.MinInt64), "0108 ffffffffffffffff"},
		{"the empty text", text(""), "0200"},
		{"ab", text("ab"), "02 0102 6162"},
		{"bytes that are no UTF-8", text("\xff\x00\xc3"), "02 0103 ff00c3"},
		{"the empty list", list(), "0300"},
		{"a list of zero and the empty text", list(number(0), text("")), "03 0102 0100 0200"},
		{"lists in lists", list(list(), list(text("a"), number(-1)), list(list())), "03 0103 0300 03 0102 02010161 010101 03 0101 0300"},
	} {
		checkPair(t, c.name, c.i, bytesOf(t, c.bytes))
	}
}

// P1.1: counts of texts and lists take as many bytes as they need.
func TestCounts(t *testing.T) {
	for _, c := range []struct {
		n     int
		count string
	}{{1, "0101"}, {255, "01ff"}, {256, "020100"}, {4095, "020fff"}, {4096, "021000"}} {
		count := bytesOf(t, c.count)
		checkPair(t, "text", text(long(c.n)), slices.Concat([]byte{2}, count, []byte(long(c.n))))
		if c.n < api.MaxItems {
			checkPair(t, "list", wide(c.n+1), slices.Concat([]byte{3}, count, bytes.Repeat([]byte{1, 0}, c.n)))
		}
	}
}

// P1.1: the limits hold for valid items, up to their edges.
func TestWithinLimits(t *testing.T) {
	for name, i := range map[string]api.Item{
		"MaxText":             text(long(api.MaxText)),
		"MaxItems":            wide(api.MaxItems),
		"MaxItems on levels":  list(wide(api.MaxItems/2), wide(api.MaxItems/2-1)),
		"MaxDepth":            deep(api.MaxDepth, number(7)),
		"MaxDepth, text":      deep(api.MaxDepth, text("a")),
		"MaxDepth, empty":     deep(api.MaxDepth, list()),
		"MaxDepth at the end": list(number(1), deep(api.MaxDepth-1, number(7))),
		"long texts":          list(slices.Repeat([]api.Item{text(long(api.MaxText))}, api.MaxItems-1)...),
	} {
		b, e := Encode(i)
		if e != api.OK {
			t.Errorf("%s: %d", name, e)
		}
		checkPair(t, name, i, b)
	}
}

// P1.1: beyond a limit the error is ErrMany, wherever in the item it is, and whatever the kinds around it.
func TestBeyondLimits(t *testing.T) {
	wrong := api.Item{Kind: 9}
	for name, i := range map[string]api.Item{
		"MaxText + 1":                  text(long(api.MaxText + 1)),
		"MaxText + 1, in a list":       list(number(0), list(text(long(api.MaxText+1)))),
		"MaxItems + 1":                 wide(api.MaxItems + 1),
		"MaxItems + 1 on levels":       list(wide(api.MaxItems/2), wide(api.MaxItems/2)),
		"MaxDepth + 1":                 deep(api.MaxDepth+1, number(7)),
		"MaxDepth + 1, empty":          deep(api.MaxDepth+1, list()),
		"MaxDepth + 1, second":         list(number(0), deep(api.MaxDepth, text(""))),
		"ErrMany behind ErrForm":       list(wrong, text(long(api.MaxText+1))),
		"ErrMany ahead of ErrForm":     list(deep(api.MaxDepth, number(7)), wrong),
		"long text with N":             {Kind: api.Text, S: long(api.MaxText + 1), N: 1},
		"long text below a number":     {Kind: api.Number, L: []api.Item{text(long(api.MaxText + 1))}},
		"long text below a text":       {Kind: api.Text, L: []api.Item{text(long(api.MaxText + 1))}},
		"long text below no kind":      {Kind: -1, L: []api.Item{text(long(api.MaxText + 1))}},
		"too many items of a number":   {Kind: api.Number, L: wide(api.MaxItems + 1).L},
		"too many items of a text":     {Kind: api.Text, L: wide(api.MaxItems + 1).L},
		"too many items of no kind":    {L: wide(api.MaxItems + 1).L},
		"too many items of wrong form": list(slices.Repeat([]api.Item{wrong}, api.MaxItems)...),
		"too deep below a number":      {Kind: api.Number, L: []api.Item{deep(api.MaxDepth, number(7))}},
		"too deep below no kind":       {Kind: 4, L: []api.Item{deep(api.MaxDepth, number(7))}},
		"too deep with a wrong end":    deep(api.MaxDepth+1, wrong),
	} {
		checkNone(t, name, i, api.ErrMany)
	}
}

// P1.1: within the limits, what is no valid item is ErrForm.
func TestNoItems(t *testing.T) {
	for name, i := range map[string]api.Item{
		"no kind":                      {},
		"kind 4":                       {Kind: 4},
		"kind -1":                      {Kind: -1},
		"kind 257":                     {Kind: 257},
		"number with S":                {Kind: api.Number, S: "a"},
		"number with long S":           {Kind: api.Number, S: long(api.MaxText + 1)},
		"number with L":                {Kind: api.Number, L: []api.Item{number(0)}},
		"text with N":                  {Kind: api.Text, N: -1},
		"text with L":                  {Kind: api.Text, S: "a", L: []api.Item{text("b")}},
		"list with N":                  {Kind: api.List, N: 1},
		"list with S":                  {Kind: api.List, S: "a"},
		"list with long S":             {Kind: api.List, S: long(api.MaxText + 1)},
		"no kind with long S":          {S: long(api.MaxText + 1)},
		"an element of no kind":        list(number(1), api.Item{}),
		"an element with a field more": list(list(api.Item{Kind: api.Text, N: 1}), number(1)),
		"MaxItems, one wrong":          list(append(wide(api.MaxItems-1).L, api.Item{})...),
		"MaxItems below a number":      {Kind: api.Number, L: wide(api.MaxItems).L},
		"MaxDepth, a wrong end":        deep(api.MaxDepth, api.Item{Kind: api.Number, S: "a"}),
		"MaxDepth below a text":        {Kind: api.Text, L: []api.Item{deep(api.MaxDepth-1, number(7))}},
	} {
		checkNone(t, name, i, api.ErrForm)
	}
}

// R6: a list without elements is the same with an empty slice and with nil.
func TestEmptyAndNil(t *testing.T) {
	none := []api.Item{}
	checkPair(t, "number", api.Item{Kind: api.Number, N: 1, L: none}, []byte{1, 1, 2})
	checkPair(t, "text", api.Item{Kind: api.Text, S: "a", L: none}, []byte{2, 1, 1, 'a'})
	checkPair(t, "list", api.Item{Kind: api.List, L: none}, []byte{3, 0})
	if i, e := Decode(nil); e != api.ErrForm || !reflect.DeepEqual(i, api.Item{}) {
		t.Errorf("Decode(nil): %v, %d", i, e)
	}
}

// R1: lists that share their elements stand for more items than could be walked through.
func TestSharedElements(t *testing.T) {
	i := list()
	for range api.MaxDepth - 1 {
		i = list(slices.Repeat([]api.Item{i}, 1000)...)
	}
	checkNone(t, "shared", i, api.ErrMany)
	i = list()
	for range 1 << 16 {
		i = list(i, i)
	}
	checkNone(t, "nested", i, api.ErrMany)
}

// P1.2: bytes that are the encoding of no valid item.
func TestWrongBytes(t *testing.T) {
	for name, digits := range map[string]string{
		"nothing":                         "",
		"kind 0":                          "00",
		"kind 0 with a count":             "0000",
		"kind 4":                          "0400",
		"kind 255":                        "ff00",
		"number without a count":          "01",
		"text without a count":            "02",
		"list without a count":            "03",
		"number cut short":                "0101",
		"number of eight bytes cut short": "0108 ffffffffffffff",
		"text cut short":                  "02 0102 61",
		"list cut short":                  "03 0102 0100",
		"zero as a byte":                  "010100",
		"number with a leading zero":      "01020002",
		"number of eight with a zero":     "0108 00ffffffffffffff",
		"text with a zero as its count":   "020100",
		"text with a leading zero":        "02 020001 61",
		"list with a zero as its count":   "030100",
		"list with a leading zero":        "03 020001 0100",
		"number of nine bytes":            "0109 010000000000000000",
		"number of nine, leading zero":    "0109 00ffffffffffffffff",
		"number of 255 bytes":             "01ff" + strings.Repeat("ff", 255),
		"byte behind a number":            "010000",
		"byte behind a text":              "02 0101 61 62",
		"byte behind a list":              "0300 00",
		"number behind a number":          "0100 0100",
		"list with a wrong element":       "03 0101 010100",
		"list with an element of no kind": "03 0101 04",
		"text of nearly 2^64 bytes":       "02 08 ffffffffffffffff 61",
		"text of 2^63 bytes":              "02 08 8000000000000000 61",
		"list of nearly 2^64 elements":    "03 08 ffffffffffffffff 0100",
		"list of 2^63 elements":           "03 08 8000000000000000 0100",
		"list of 2^32 + 1 elements":       "03 05 0100000001 0100",
	} {
		checkForm(t, name, bytesOf(t, digits))
	}
}

// P1.2: encodings of items beyond the limits are encodings of no valid item.
func TestBytesBeyondLimits(t *testing.T) {
	checkForm(t, "MaxText + 1", slices.Concat([]byte{2, 2, 0x10, 0x01}, []byte(long(api.MaxText+1))))
	checkForm(t, "MaxItems + 1", slices.Concat([]byte{3, 2, 0x10, 0x00}, bytes.Repeat([]byte{1, 0}, api.MaxItems)))
	checkForm(t, "MaxDepth + 1", slices.Concat(bytes.Repeat([]byte{3, 1, 1}, api.MaxDepth), []byte{1, 0}))
	checkForm(t, "MaxDepth + 1, empty", slices.Concat(bytes.Repeat([]byte{3, 1, 1}, api.MaxDepth), []byte{3, 0}))
	checkForm(t, "much too deep", slices.Concat(bytes.Repeat([]byte{3, 1, 1}, 1<<16), []byte{1, 0}))
	half := slices.Concat([]byte{3, 2, 0x07, 0xff}, bytes.Repeat([]byte{1, 0}, api.MaxItems/2-1))
	checkForm(t, "MaxItems + 1 on levels", slices.Concat([]byte{3, 1, 2}, half, half))
}

// P1.2: no part of an encoding is one, nor is an encoding with anything behind it (P1.3: no encoding is a prefix).
func TestCutAndMore(t *testing.T) {
	for _, i := range []api.Item{
		number(0), number(-1), number(300), number(math.MinInt64), text(""), text("abc"), text(long(300)), list(),
		list(number(0), text(""), list(number(5), text("x"))), wide(300), deep(api.MaxDepth, text("a")),
	} {
		b, e := Encode(i)
		if e != api.OK {
			t.Fatalf("%v: %d", i, e)
		}
		for n := range b {
			checkForm(t, "cut short", b[:n])
		}
		for x := range 256 {
			checkForm(t, "a byte behind", append(slices.Clone(b), byte(x)))
		}
		checkForm(t, "twice", slices.Concat(b, b))
	}
}

// P1.2, P1.3: of all short bytes, those that are read are what is written, and nothing else is read.
func TestAllShortBytes(t *testing.T) {
	letters := []byte{0, 1, 2, 3, 4, 8, 9, 'a', 0xff}
	var last [][]byte
	read := 0
	for _, length := range []int{0, 1, 2, 3, 4, 5, 6} {
		last = longer(last, letters, length)
		for _, b := range last {
			i, e := Decode(b)
			if e != api.OK {
				checkForm(t, "short", b)
				continue
			}
			read++
			checkPair(t, "short", i, b)
		}
	}
	if want := counted(6, letters); read != want {
		t.Errorf("%d of the short bytes are read, not %d", read, want)
	}
}

// longer returns each of the words of length - 1 with each of the letters behind it.
func longer(words [][]byte, letters []byte, length int) [][]byte {
	if length == 0 {
		return [][]byte{{}}
	}
	var out [][]byte
	for _, w := range words {
		for _, l := range letters {
			out = append(out, append(slices.Clone(w), l))
		}
	}
	return out
}

// counted tells how many encodings of at most that length there are whose bytes are all among the letters, by
// counting ways instead of reading bytes. The lengths are so small that no count has more than four bytes.
func counted(length int, letters []byte) int {
	exact := make([]int, length+1) // exact[n]: the encodings of n bytes
	power := func(base, n int) int {
		p := 1
		for range n {
			p *= base
		}
		return p
	}
	var rows func(elements, n int) int // the rows of so many encodings, of n bytes together
	rows = func(elements, n int) int {
		if elements == 0 {
			if n == 0 {
				return 1
			}
			return 0
		}
		sum := 0
		for first := 2; first <= n; first++ {
			sum += exact[first] * rows(elements-1, n-first)
		}
		return sum
	}
	total := 0
	for n := 2; n <= length; n++ {
		if n == 2 {
			exact[n] = 3 // zero, the empty text, the empty list
		} else {
			if slices.Contains(letters, byte(n-2)) {
				exact[n] += (len(letters) - 1) * power(len(letters), n-3) // numbers: the first of n - 2 bytes isn't zero
			}
			if slices.Contains(letters, byte(n-3)) && n > 3 {
				exact[n] += power(len(letters), n-3) // texts: a count of one byte
			}
			for elements := 1; elements <= n; elements++ {
				if slices.Contains(letters, byte(elements)) {
					exact[n] += rows(elements, n-3)
				}
			}
		}
		total += exact[n]
	}
	return total
}

// grown returns some item within the limits; the source is seeded, so that each run tests the same ones.
func grown(r *rand.Rand, depth int) api.Item {
	switch k := r.Intn(4); {
	case k == 0:
		return number(int64(r.Uint64()) >> r.Intn(64))
	case k == 1:
		b := make([]byte, r.Intn(40))
		r.Read(b)
		return text(string(b))
	case depth == api.MaxDepth:
		return list()
	default:
		i := list()
		for range r.Intn(4) {
			i.L = append(i.L, grown(r, depth+1))
		}
		return i
	}
}

// P1.3: what is encoded is decoded, and what is decoded is encoded as the same bytes.
func TestThereAndBack(t *testing.T) {
	r := rand.New(rand.NewSource(1))
	for range 3000 {
		i := grown(r, 1)
		b, e := Encode(i)
		if e != api.OK {
			t.Fatalf("%v: %d", i, e)
		}
		checkPair(t, "grown", i, b)
		b[r.Intn(len(b))] ^= byte(1 + r.Intn(255))
		if j, e := Decode(b); e == api.OK {
			checkPair(t, "changed", j, b)
		}
	}
	for k := range 64 {
		for _, n := range []int64{1<<k - 1, 1 << k, -1 << k, -1<<k - 1} {
			b, e := Encode(number(n))
			if e != api.OK {
				t.Fatalf("%d: %d", n, e)
			}
			checkPair(t, "number", number(n), b)
		}
	}
}

// P1.3: no encoding is a proper prefix of another one's: in order, a prefix stands right ahead of what it begins.
func TestNoPrefix(t *testing.T) {
	r := rand.New(rand.NewSource(2))
	var all []string
	for range 3000 {
		b, _ := Encode(grown(r, 1))
		all = append(all, string(b))
	}
	slices.Sort(all)
	for k := 1; k < len(all); k++ {
		if all[k] != all[k-1] && strings.HasPrefix(all[k], all[k-1]) {
			t.Errorf("%x begins %x", all[k-1], all[k])
		}
	}
}

// R3: arguments stay as they are, and what is answered is memory of its own.
func TestOwnMemory(t *testing.T) {
	i := list(number(1), text("ab"), list(number(2)), list(number(3)))
	kept := tidied(i)
	b, _ := Encode(i)
	c, _ := Encode(i)
	clear(b)
	if d, _ := Encode(i); !same(i, kept) || !bytes.Equal(c, d) {
		t.Errorf("changed by Encode: %v, %x", i, d)
	}
	b = slices.Clone(c)
	j, _ := Decode(b)
	if !bytes.Equal(b, c) {
		t.Errorf("changed by Decode: %x", b)
	}
	clear(b)
	if !same(j, kept) {
		t.Errorf("changed with the bytes: %v", j)
	}
	j.L[2].L = append(j.L[2].L, number(9))
	j.L[2].L[0] = number(8)
	if !same(j.L[3], list(number(3))) {
		t.Errorf("changed with another list: %v", j)
	}
}
