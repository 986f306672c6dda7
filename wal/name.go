package wal

import (
	"strconv"
	"strings"
)

// single is a file of which there is but one.
type single string

const (
	voteFile single = "vote"
	snapFile single = "snap"
)

func (f single) name() string { return string(f) }

// newName returns the name under which the file is made anew, before it takes the place of the old one.
func (f single) newName() string { return string(f) + ".new" }

// segment is a segment's number.
type segment int64

// A segment's name has so many digits, which bounds its number.
const (
	segmentMark           = "s"
	segmentDigits         = 10
	lastSegment   segment = 9999999999
)

func (s segment) name() string {
	digits := strconv.FormatInt(int64(s), 10)
	return segmentMark + strings.Repeat("0", segmentDigits-len(digits)) + digits
}

// segmentOf returns the segment that has this name, or false if none has.
func segmentOf(name string) (segment, bool) {
	digits, marked := strings.CutPrefix(name, segmentMark)
	if !marked || len(digits) != segmentDigits {
		return 0, false
	}
	// Only an unsigned number is without signs; 0 is left for what is none.
	n, err := strconv.ParseUint(digits, 10, 64)
	if err != nil {
		return 0, false
	}
	return segment(n), n > 0
}
