package rlog

import "provost/api"

// within tells whether so many entries behind an index end at MaxIndex or below. The sum could pass 64 bits, so there
// is none.
func within(index int64, many int) bool { return index <= api.MaxIndex-int64(many) }

// at is where the entry of an index is, if the log has one.
func (g *Log) at(i int64) int { return int(i - g.index - 1) }

// refuses returns why so many entries can't be stored behind an index of that term.
func (g *Log) refuses(prev, term int64, many int) api.Errno {
	base, _ := g.Base()
	has, known := g.Term(prev)
	switch {
	case prev < 0 || !within(prev, many):
		return api.ErrRange
	case prev < base && prev+int64(many) <= base:
		return api.ErrOld
	case prev >= base && (!known || has != term):
		return api.ErrNone
	}
	return api.OK
}

// truncate removes the entries from index i on, which is at most the first index that the log doesn't have.
func (g *Log) truncate(i int64) {
	kept := g.at(i)
	// The room stays for entries to come; cleared, it doesn't hold on to the data of those that went.
	clear(g.entries[kept:])
	g.entries = g.entries[:kept]
}

// move makes another base, and removes the entries up to it.
func (g *Log) move(index, term int64) {
	gone := min(index-g.index, int64(len(g.entries)))
	// What is in front of the entries stays in memory with them, as long as they aren't moved to a greater room.
	clear(g.entries[:gone])
	g.index, g.term, g.entries = index, term, g.entries[gone:]
}
