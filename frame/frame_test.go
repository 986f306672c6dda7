package frame

import (
	"bytes"
	"encoding/binary"
	"hash/crc32"
	"math/rand"
	"slices"
	"testing"

	"provost/api"
)

// record is a record as the chapter's words have it, with a length that needn't be the payload's.
func record(length uint32, payload []byte) []byte {
	b := append(binary.BigEndian.AppendUint32(nil, length), payload...)
	return append(binary.BigEndian.AppendUint32(nil, crc32.ChecksumIEEE(b)), b...)
}

// whole is the record of a payload.
func whole(payload []byte) []byte { return record(uint32(len(payload)), payload) }

// filled are n bytes, none of which is 0.
func filled(n int, x byte) []byte { return bytes.Repeat([]byte{x | 1}, n) }

func randomBytes(r *rand.Rand, n int) []byte {
	b := make([]byte, n)
	r.Read(b)
	return b
}

// put puts payloads that may be, one behind the other.
func put(t *testing.T, payloads ...[]byte) []byte {
	t.Helper()
	var b []byte
	for _, p := range payloads {
		var e api.Errno
		if b, e = Put(b, p); e != api.OK {
			t.Fatalf("a payload of %d bytes: %d", len(p), e)
		}
	}
	return b
}

// expect scans b and holds what comes against the payloads, and the length against that of their records.
func expect(t *testing.T, what string, b []byte, want ...[]byte) {
	t.Helper()
	length := 0
	for _, p := range want {
		length += 8 + len(p)
	}
	got, n := Scan(b)
	if !slices.EqualFunc(got, want, bytes.Equal) || n != length {
		t.Errorf("%s: got %d payloads %.80x of %d bytes, want %d of %d", what, len(got), got, n, len(want), length)
	}
}

// some are payloads of ordinary lengths and of those at the edges.
func some() [][]byte {
	r := rand.New(rand.NewSource(6))
	l := [][]byte{nil, {0}, {0, 0, 0, 0, 0, 0, 0, 0}, {255}, []byte("abc"), whole([]byte("in it"))}
	for _, n := range []int{2, 7, 8, 9, 255, 256, 257, 1000, 4095, 4096} {
		l = append(l, randomBytes(r, n))
	}
	return l
}

// P6.1: the example, and a record of three bytes written out.
func TestPutOfKnownRecords(t *testing.T) {
	cases := []struct {
		name       string
		b, payload []byte
		want       string
	}{
		{"nothing", nil, nil, "\x21\x44\xdf\x1c\x00\x00\x00\x00"},
		{"empty", []byte{}, []byte{}, "\x21\x44\xdf\x1c\x00\x00\x00\x00"},
		{"behind", []byte("ab"), nil, "ab\x21\x44\xdf\x1c\x00\x00\x00\x00"},
		{"three bytes", nil, []byte("abc"), "\x45\xbc\xe8\x40\x00\x00\x00\x03abc"},
	}
	for _, c := range cases {
		got, e := Put(c.b, c.payload)
		if string(got) != c.want || e != api.OK {
			t.Errorf("%s: got %x, %d, want %x", c.name, got, e, c.want)
		}
	}
}

// P6.1: b followed by the record, of payloads of no bytes up to MaxText, whatever b is.
func TestPut(t *testing.T) {
	for _, b := range [][]byte{nil, []byte("no record"), whole([]byte("one")), make([]byte, 10000)} {
		for _, p := range some() {
			got, e := Put(b, p)
			if want := append(bytes.Clone(b), whole(p)...); !bytes.Equal(got, want) || e != api.OK {
				t.Errorf("%d bytes behind %d: got %d bytes, %d", len(p), len(b), len(got), e)
			}
		}
	}
}

// P6.1: no bytes come with ErrMany, and nothing is changed.
func TestPutOfTooMany(t *testing.T) {
	for _, n := range []int{4097, 4098, 8192, 65536, 1 << 20} {
		room := append(make([]byte, 0, n+100), "abc"...)
		for _, b := range [][]byte{nil, []byte("abc"), room} {
			kept := bytes.Clone(b[:cap(b)])
			if got, e := Put(b, filled(n, 'x')); len(got) != 0 || e != api.ErrMany {
				t.Errorf("%d bytes: got %d bytes, %d", n, len(got), e)
			}
			if !bytes.Equal(b[:cap(b)], kept) {
				t.Errorf("%d bytes: b isn't what it was", n)
			}
		}
	}
}

// P6.1 and R3: what is behind b's bytes stays as it was, and the result shares no memory with the arguments.
func TestPutLeavesItsArguments(t *testing.T) {
	for _, p := range some() {
		back := filled(6000, 'r')
		b, kept, keptPayload := back[:5], bytes.Clone(back), bytes.Clone(p)
		one, _ := Put(b, p)
		two, _ := Put(b, []byte("another one"))
		if !bytes.Equal(back, kept) || !bytes.Equal(p, keptPayload) {
			t.Fatalf("%d bytes: an argument was changed", len(p))
		}
		if want := append(bytes.Clone(b), whole(p)...); !bytes.Equal(one, want) {
			t.Fatalf("%d bytes: the second call changed the first one's result", len(p))
		}
		clear(one)
		if !bytes.Equal(back, kept) || !bytes.Equal(p, keptPayload) {
			t.Fatalf("%d bytes: the result is a part of an argument", len(p))
		}
		clear(back)
		if want := append(bytes.Clone(kept[:5]), whole([]byte("another one"))...); !bytes.Equal(two, want) {
			t.Fatalf("%d bytes: b is a part of the result", len(p))
		}
	}
}

// P6.1 and R3: a result may be gone on with twice, because the second call doesn't write over the first one's record.
func TestPutTwiceBehindOne(t *testing.T) {
	b := put(t, []byte("base"))
	one, _ := Put(b, []byte("one"))
	two, _ := Put(b, []byte("two"))
	expect(t, "the first", one, []byte("base"), []byte("one"))
	expect(t, "the second", two, []byte("base"), []byte("two"))
}

// P6.1: bytes in which there is no record at all.
func TestScanOfNoRecord(t *testing.T) {
	expect(t, "nil", nil)
	expect(t, "no bytes", []byte{})
	empty := whole(nil)
	for n := range 8 {
		expect(t, "zeros", make([]byte, n))
		expect(t, "a part of an empty record", empty[:n])
		expect(t, "bytes 255", bytes.Repeat([]byte{255}, n))
	}
	for _, n := range []int{8, 9, 16, 4104, 5000, 100000} {
		expect(t, "zeros", make([]byte, n))
		expect(t, "bytes 255", bytes.Repeat([]byte{255}, n))
		expect(t, "text", bytes.Repeat([]byte("no record"), n))
	}
	r := rand.New(rand.NewSource(7))
	for range 2000 {
		expect(t, "random bytes", randomBytes(r, r.Intn(60)))
	}
}

// P6.1: the record's numbers have the highest byte first, the length and the payload count for the sum, and nothing else does.
func TestScanOfRecordsThatAreNearlySo(t *testing.T) {
	p := []byte("abc")
	sum := func(covered ...[]byte) []byte {
		return binary.BigEndian.AppendUint32(nil, crc32.ChecksumIEEE(slices.Concat(covered...)))
	}
	length, turned := []byte{0, 0, 0, 3}, []byte{3, 0, 0, 0}
	right := sum(length, p)
	back := bytes.Clone(right)
	slices.Reverse(back)
	cases := []struct {
		name  string
		parts [][]byte
	}{
		{"sum of the payload alone", [][]byte{sum(p), length, p}},
		{"sum of the length alone", [][]byte{sum(length), length, p}},
		{"length behind the payload in the sum", [][]byte{sum(p, length), length, p}},
		{"lowest byte of the sum first", [][]byte{back, length, p}},
		{"lowest byte of the length first", [][]byte{sum(turned, p), turned, p}},
		{"sum behind the length", [][]byte{length, right, p}},
		{"sum at the end", [][]byte{length, p, right}},
		{"length of the whole record", [][]byte{sum([]byte{0, 0, 0, 11}, p), {0, 0, 0, 11}, p}},
		{"no payload", [][]byte{right, length}},
		{"another sum", [][]byte{{0, 0, 0, 0}, length, p}},
	}
	for _, c := range cases {
		b := slices.Concat(c.parts...)
		expect(t, c.name, b)
		expect(t, c.name+", with a record behind", append(b, whole(p)...))
		expect(t, c.name+", behind a record", append(whole(p), b...), p)
	}
	expect(t, "a record", slices.Concat(right, length, p), p)
}

// P6.1: scanning ends with the first record that is none, and what is behind it doesn't count.
func TestScanEnds(t *testing.T) {
	one, two := []byte("one"), filled(300, 't')
	before := slices.Concat(whole(one), whole(two))
	wrong := whole([]byte("three"))
	wrong[3] ^= 1
	cases := []struct {
		name string
		b    []byte
	}{
		{"nothing", nil},
		{"one byte", []byte{1}},
		{"one byte 0", []byte{0}},
		{"seven bytes", []byte("\x21\x44\xdf\x1c\x00\x00\x00")},
		{"eight bytes 0", make([]byte, 8)},
		{"a head alone", whole([]byte("three"))[:8]},
		{"all but one byte", whole([]byte("three"))[:12]},
		{"a wrong sum", wrong},
		{"4097 bytes", whole(filled(4097, 'l'))},
		{"5000 bytes", whole(filled(5000, 'l'))},
		{"65536 bytes", whole(filled(65536, 'l'))},
		{"a length that has too many bytes behind it", record(2, []byte("three"))},
		{"a length that has too few bytes behind it", record(6, []byte("three"))},
		{"2^31 - 1", record(1<<31-1, []byte("three"))},
		{"2^31", record(1<<31, []byte("three"))},
		{"2^31 + 5", record(1<<31+5, []byte("three"))},
		{"2^32 - 1", record(1<<32-1, []byte("three"))},
		{"2^32 - 8", record(1<<32-8, []byte("three"))},
		{"2^32 - 1 without payload", record(1<<32-1, nil)},
	}
	for _, c := range cases {
		expect(t, c.name, c.b)
		expect(t, c.name+" behind records", slices.Concat(before, c.b), one, two)
		if len(c.b) > 7 && c.name != "a head alone" && c.name != "all but one byte" {
			expect(t, c.name+" between records", slices.Concat(before, c.b, before), one, two)
		}
	}
}

// P6.2: Scan returns what Put wrote, as many as there are.
func TestScanOfWhatWasPut(t *testing.T) {
	for _, p := range some() {
		expect(t, "one record", put(t, p), p)
		expect(t, "the same twice", put(t, p, p), p, p)
	}
	all := some()
	expect(t, "all", put(t, all...), all...)
	expect(t, "all but the first", put(t, all...)[8:], all[1:]...)
	none := make([][]byte, 5000)
	expect(t, "5000 empty payloads", put(t, none...), none...)
	r := rand.New(rand.NewSource(8))
	for range 300 {
		var l [][]byte
		for range r.Intn(20) {
			l = append(l, randomBytes(r, r.Intn(40)))
		}
		expect(t, "random payloads", put(t, l...), l...)
	}
}

// P6.1: one more byte, whatever it is, doesn't count.
func TestScanOfOneMoreByte(t *testing.T) {
	b := put(t, []byte("one"), nil)
	for x := range 256 {
		expect(t, "one more byte", append(bytes.Clone(b), byte(x)), []byte("one"), nil)
	}
}

// P6.2: of records that are cut, the complete ones come, and no other; so they do with bytes 0 in the place of the rest,
// where a record is complete as well whose lost bytes were 0.
func TestScanOfTornRecords(t *testing.T) {
	zeros := append([]byte("ends so"), make([]byte, 20)...)
	lists := [][][]byte{
		some()[:11],
		{nil, nil, nil},
		{[]byte("one"), filled(300, 't'), nil, filled(4096, 'l')},
		{[]byte("one"), zeros, make([]byte, 4096)},
		{make([]byte, 256), filled(256, 'f'), whole(nil), nil, []byte("last")},
	}
	for _, l := range lists {
		b := put(t, l...)
		for n := range len(b) + 1 {
			expect(t, "cut", b[:n], l[:complete(l, b, b[:n])]...)
			torn := append(bytes.Clone(b[:n]), make([]byte, len(b)-n)...)
			expect(t, "cut, with zeros", torn, l[:complete(l, b, torn)]...)
			expect(t, "cut, with more zeros", append(torn, make([]byte, 50)...), l[:complete(l, b, torn)]...)
		}
	}
}

// complete tells how many of the first records of b are in torn as they were.
func complete(l [][]byte, b, torn []byte) int {
	end := 0
	for i, p := range l {
		end += 8 + len(p)
		if end > len(torn) || !bytes.Equal(torn[:end], b[:end]) {
			return i
		}
	}
	return len(l)
}

// P6.1: a record of which any one bit is turned is none, and ends the scanning.
func TestScanOfTurnedBits(t *testing.T) {
	for _, p := range [][]byte{nil, {0}, []byte("a payload"), make([]byte, 20), filled(300, 'p')} {
		b := put(t, []byte("one"), p, []byte("three"))
		for k := 8 * 11; k < 8*(19+len(p)); k++ {
			b[k/8] ^= 1 << (k % 8)
			expect(t, "a turned bit", b, []byte("one"))
			b[k/8] ^= 1 << (k % 8)
		}
		expect(t, "no turned bit", b, []byte("one"), p, []byte("three"))
	}
}

// P6.1 and the chapter's Ways: a payload that is appended to leaves the records behind it as they are, because its capacity ends with it.
func TestAppendToScannedPayloads(t *testing.T) {
	l := some()
	b := put(t, append(l, nil)...)
	kept := bytes.Clone(b)
	got, _ := Scan(b)
	for i, p := range got {
		if cap(p) != len(p) {
			t.Errorf("payload %d has %d bytes, and room for %d", i, len(p), cap(p))
		}
		_ = append(p, "written behind the payload"...)
		_, _ = Put(p, []byte("put behind the payload"))
		if !bytes.Equal(b, kept) {
			t.Fatalf("payload %d: what is behind it has changed", i)
		}
	}
	expect(t, "after all", b, append(l, nil)...)
}

// The chapter's Ways: the payloads are parts of the argument.
func TestScannedPayloadsAreParts(t *testing.T) {
	b := put(t, []byte("one"), []byte("two"))
	got, _ := Scan(b)
	b[8] = 'O'
	if string(got[0]) != "One" || string(got[1]) != "two" {
		t.Errorf("got %q", got)
	}
}

// P6.1 and R5: room behind the bytes is not scanned, even if there is a record in it.
func TestScanStaysWithinItsArgument(t *testing.T) {
	b := put(t, []byte("one"), []byte("two"))
	expect(t, "the first", b[:11], []byte("one"))
	expect(t, "a part of the first", b[:10])
	expect(t, "none", b[:0])
}

// R3 and R4: the bytes are left as they are, and the same call returns the same.
func TestScanLeavesItsArgument(t *testing.T) {
	b := append(put(t, some()...), "the rest"...)
	kept := bytes.Clone(b)
	for range 3 {
		expect(t, "again", b, some()...)
	}
	if !bytes.Equal(b, kept) {
		t.Error("the bytes aren't what they were")
	}
}
