package frame

import (
	"provost/api"
	"provost/crc"
)

// A record is a checksum, the length of its payload, and the payload; the first two are its head.
const (
	sumBytes  = 4
	headBytes = sumBytes + 4
)

// fill makes a record of the payload, which takes all of the record's bytes.
func fill(record []byte, payload []byte) {
	copy(record[headBytes:], payload)
	putNumber(record[sumBytes:headBytes], uint32(len(payload)))
	// The checksum covers the length too, so it comes last.
	putNumber(record[:sumBytes], crc.Sum(record[sumBytes:]))
}

// first returns the payload of the record that b begins with, or false if there is no whole one.
func first(b []byte) ([]byte, bool) {
	if len(b) < headBytes {
		return nil, false
	}
	// The length is held against the limit before it becomes an int, which may be too small for it.
	length := number(b[sumBytes:headBytes])
	if length > api.MaxText || int(length) > len(b)-headBytes {
		return nil, false
	}
	end := headBytes + int(length)
	if number(b[:sumBytes]) != crc.Sum(b[sumBytes:end]) {
		return nil, false
	}
	// The capacity ends with the payload, so that to append to it leaves the next record as it is.
	return b[headBytes:end:end], true
}

// putNumber writes n to four bytes, the highest one first.
func putNumber(b []byte, n uint32) {
	for i := range b {
		b[i] = byte(n >> (8 * (len(b) - 1 - i)))
	}
}

// number reads what putNumber wrote.
func number(b []byte) uint32 {
	var n uint32
	for _, x := range b {
		n = n<<8 | uint32(x)
	}
	return n
}
