package crc

import (
	"bytes"
	"hash/crc32"
	"math"
	"math/rand"
	"testing"
)

// slow is Sum as the chapter's words have it, bit by bit.
func slow(register uint32, b []byte) uint32 {
	for _, x := range b {
		for k := 0; k < 8; k++ {
			odd := (register ^ uint32(x)>>k) & 1
			register >>= 1
			if odd == 1 {
				register ^= 0xEDB88320
			}
		}
	}
	return register
}

func randomBytes(r *rand.Rand, n int) []byte {
	b := make([]byte, n)
	for i := range b {
		b[i] = byte(r.Intn(256))
	}
	return b
}

// P2.1: the sums of the examples and of others that are known.
func TestSumOfKnownBytes(t *testing.T) {
	cases := []struct {
		name string
		b    []byte
		want uint32
	}{
		{"nil", nil, 0},
		{"empty", []byte{}, 0},
		{"digits", []byte("123456789"), 0xCBF43926},
		{"four zeros", make([]byte, 4), 0x2144DF1C},
		{"one zero", []byte{0}, 0xD202EF8D},
		{"one 255", []byte{255}, 0xFF000000},
		{"four 255", []byte{255, 255, 255, 255}, 0xFFFFFFFF},
		{"a", []byte("a"), 0xE8B7BE43},
		{"abc", []byte("abc"), 0x352441C2},
	}
	for _, c := range cases {
		if got := Sum(c.b); got != c.want {
			t.Errorf("%s: got %08X, want %08X", c.name, got, c.want)
		}
	}
}

// P2.1: each byte's register value counts, and the lowest bit of a byte goes first.
func TestSumOfEachByte(t *testing.T) {
	for x := 0; x < 256; x++ {
		b := []byte{byte(x), 7, byte(255 - x)}
		if got, want := Sum(b), ^slow(0xFFFFFFFF, b); got != want {
			t.Errorf("byte %d: got %08X, want %08X", x, got, want)
		}
	}
}

// P2.1: sums of long and short bytes are the ones that bit by bit steps give.
func TestSumOfRandomBytes(t *testing.T) {
	r := rand.New(rand.NewSource(2))
	for n := 0; n < 300; n++ {
		b := randomBytes(r, n)
		got := Sum(b)
		if want := ^slow(0xFFFFFFFF, b); got != want {
			t.Fatalf("%d bytes: got %08X, want %08X", n, got, want)
		}
		if want := crc32.ChecksumIEEE(b); got != want {
			t.Fatalf("%d bytes: got %08X, want %08X", n, got, want)
		}
	}
}

// P2.1: More starts with any register, not only with one that Sum has left.
func TestMoreFromAnySum(t *testing.T) {
	r := rand.New(rand.NewSource(3))
	for _, s := range []uint32{0, 1, 77, 1 << 31, math.MaxUint32, 0xEDB88320} {
		for n := 0; n < 20; n++ {
			b := randomBytes(r, n)
			if got, want := More(s, b), ^slow(^s, b); got != want {
				t.Errorf("%08X and %d bytes: got %08X, want %08X", s, n, got, want)
			}
		}
		if got := More(s, nil); got != s {
			t.Errorf("%08X and nil: got %08X", s, got)
		}
		if got := More(s, []byte{}); got != s {
			t.Errorf("%08X and no bytes: got %08X", s, got)
		}
	}
}

// P2.1: a sum that is gone on with in parts is the sum of the whole.
func TestMoreInParts(t *testing.T) {
	r := rand.New(rand.NewSource(4))
	for round := 0; round < 200; round++ {
		b := randomBytes(r, r.Intn(80))
		want := Sum(b)
		cut := r.Intn(len(b) + 1)
		if got := More(Sum(b[:cut]), b[cut:]); got != want {
			t.Fatalf("cut at %d of %d: got %08X, want %08X", cut, len(b), got, want)
		}
		s := Sum(nil)
		for rest := b; len(rest) > 0; {
			n := 1 + r.Intn(len(rest))
			s = More(s, rest[:n])
			rest = rest[n:]
		}
		if s != want {
			t.Fatalf("%d bytes in parts: got %08X, want %08X", len(b), s, want)
		}
	}
}

// P2.1: Zeros is More of so many zero bytes.
func TestZerosOfOrdinaryNumbers(t *testing.T) {
	if got := Zeros(0, 4); got != 0x2144DF1C {
		t.Errorf("four zeros: got %08X", got)
	}
	for _, s := range []uint32{0, 1, 77, 1 << 31, math.MaxUint32, 0xCBF43926} {
		for n := 0; n < 600; n++ {
			if got, want := Zeros(s, n), More(s, make([]byte, n)); got != want {
				t.Fatalf("%08X and %d: got %08X, want %08X", s, n, got, want)
			}
		}
		for _, n := range []int{4096, 65535, 65536, 1<<20 + 3} {
			if got, want := Zeros(s, n), More(s, make([]byte, n)); got != want {
				t.Fatalf("%08X and %d: got %08X, want %08X", s, n, got, want)
			}
		}
	}
}

// P2.1: Zeros leaves the sum if n is below 1.
func TestZerosBelowOne(t *testing.T) {
	for _, s := range []uint32{0, 77, math.MaxUint32} {
		for _, n := range []int{0, -1, -5, math.MinInt32, math.MinInt} {
			if got := Zeros(s, n); got != s {
				t.Errorf("%08X and %d: got %08X", s, n, got)
			}
		}
	}
}

// P2.1 and R1: great numbers of zero bytes end soon; 2^32 - 1 of them lead back to the same register, whatever it is.
func TestZerosOfGreatNumbers(t *testing.T) {
	const round = 1<<32 - 1
	for _, s := range []uint32{0, 1, 77, math.MaxUint32} {
		cases := []struct{ n, same int }{
			{round, 0},
			{round + 1, 1},
			{5*round + 12345, 12345},
			{1 << 32, 1},
			{1 << 62, 1 << 30},
			{math.MaxInt, 1<<31 - 1},
			{math.MaxInt - 1<<31 + 1 + 9, 9},
		}
		for _, c := range cases {
			if got, want := Zeros(s, c.n), Zeros(s, c.same); got != want {
				t.Errorf("%08X and %d: got %08X, want %08X", s, c.n, got, want)
			}
		}
		if got, want := Zeros(s, round+1000), More(s, make([]byte, 1000)); got != want {
			t.Errorf("%08X, one round and 1000: got %08X, want %08X", s, got, want)
		}
		if got, want := Zeros(Zeros(s, 1<<40), 1<<50+7), Zeros(s, 1<<40+1<<50+7); got != want {
			t.Errorf("%08X in two parts: got %08X, want %08X", s, got, want)
		}
	}
}

// P2.2: bytes that differ only within 32 consecutive bits have different sums.
func TestSumTellsShortDifferences(t *testing.T) {
	r := rand.New(rand.NewSource(5))
	for round := 0; round < 3000; round++ {
		b := randomBytes(r, 4+r.Intn(40))
		start := r.Intn(8*len(b) - 31)
		pattern := r.Uint32() | 1
		c := bytes.Clone(b)
		for k := 0; k < 32; k++ {
			c[(start+k)/8] ^= byte(pattern>>k&1) << ((start + k) % 8)
		}
		if Sum(b) == Sum(c) {
			t.Fatalf("%x and %x have one sum", b, c)
		}
	}
}

// P2.2: each single bit tells.
func TestSumTellsSingleBits(t *testing.T) {
	b := []byte("a record of the log")
	want := Sum(b)
	for k := 0; k < 8*len(b); k++ {
		b[k/8] ^= 1 << (k % 8)
		if Sum(b) == want {
			t.Errorf("bit %d doesn't tell", k)
		}
		b[k/8] ^= 1 << (k % 8)
	}
}

// P2.2: the exclusive or of three sums is the sum of the exclusive or.
func TestSumOfThree(t *testing.T) {
	r := rand.New(rand.NewSource(6))
	for n := 0; n < 100; n++ {
		a, b, c, all := randomBytes(r, n), randomBytes(r, n), randomBytes(r, n), make([]byte, n)
		for i := range all {
			all[i] = a[i] ^ b[i] ^ c[i]
		}
		if got, want := Sum(a)^Sum(b)^Sum(c), Sum(all); got != want {
			t.Fatalf("%d bytes: got %08X, want %08X", n, got, want)
		}
	}
}

// R3 and R4: the bytes are left as they are, and the same call answers the same.
func TestBytesAreLeft(t *testing.T) {
	b := []byte("123456789")
	kept := bytes.Clone(b)
	for k := 0; k < 3; k++ {
		if Sum(b) != 0xCBF43926 || More(Sum(b[:4]), b[4:]) != 0xCBF43926 {
			t.Error("another sum than before")
		}
	}
	if !bytes.Equal(b, kept) {
		t.Errorf("the bytes are now %q", b)
	}
}
