package wal

import (
	"bytes"
	"slices"

	"provost/api"
	"provost/frame"
	"provost/wire"
)

// headBytes is how many bytes a record has ahead of its payload.
const headBytes = 8

func number(n int64) api.Item { return api.Item{Kind: api.Number, N: n} }

func text(s string) api.Item { return api.Item{Kind: api.Text, S: s} }

// record returns the record of a list. There is one for every list that a Wal writes: an entry's data are so much
// shorter than a text or a payload may be that its numbers have room beside them.
func record(parts ...api.Item) []byte {
	payload, _ := wire.Encode(api.Item{Kind: api.List, L: parts})
	b, _ := frame.Put(nil, payload)
	return b
}

// parts returns what the parts of a payload's list say: an int64 for a number, a string for a text, nil for a list.
// A payload that is no list's has no parts.
func parts(payload []byte) []any {
	i, _ := wire.Decode(payload)
	var l []any
	for _, part := range i.L {
		l = append(l, saying(part))
	}
	return l
}

// saying returns what an item says, or nil if that is neither a number nor a text.
func saying(i api.Item) any {
	switch i.Kind {
	case api.Number:
		return i.N
	case api.Text:
		return i.S
	}
	return nil
}

// voteRecord returns the record of a term and a vote.
func voteRecord(term int64, vote int) []byte { return record(number(term), number(int64(vote))) }

// voteOf returns the term and the vote that a payload says, or false if it is no valid pair.
func voteOf(payload []byte) (int64, int, bool) {
	l := parts(payload)
	if len(l) != 2 {
		return 0, 0, false
	}
	term, isTerm := l[0].(int64)
	vote, isVote := l[1].(int64)
	if !isTerm || !isVote || term < 0 || term > api.MaxIndex || !mayVote(vote) {
		return 0, 0, false
	}
	return term, int(vote), true
}

// record returns the record that says c.
func (c change) record() []byte {
	if c.truncation {
		return record(number(c.index))
	}
	return record(number(c.index), number(c.entry.Term), text(c.entry.Data))
}

// changeOf returns the change that a payload says, or false if it says none.
func changeOf(payload []byte) (change, bool) {
	l := parts(payload)
	if len(l) == 1 {
		index, isIndex := l[0].(int64)
		return change{index: index, truncation: true}, isIndex
	}
	if len(l) != 3 {
		return change{}, false
	}
	index, isIndex := l[0].(int64)
	term, isTerm := l[1].(int64)
	data, isData := l[2].(string)
	return change{index: index, entry: api.Entry{Term: term, Data: data}}, isIndex && isTerm && isData
}

// snapRecords returns the records of a snapshot. The pieces are payloads as they are: as items they would be longer
// than a payload may be.
func snapRecords(s api.Snap) []byte {
	pieces := slices.Collect(slices.Chunk([]byte(s.Data), api.MaxText))
	b := record(number(s.Index), number(s.Term), number(int64(len(pieces))))
	for _, piece := range pieces {
		b, _ = frame.Put(b, piece)
	}
	return b
}

// snapOf returns the snapshot whose records b is, or false if it is none's.
func snapOf(b []byte) (api.Snap, bool) {
	payloads, _ := frame.Scan(b)
	if len(payloads) == 0 {
		return api.Snap{}, false
	}
	l := parts(payloads[0])
	if len(l) != 3 {
		return api.Snap{}, false
	}
	index, isIndex := l[0].(int64)
	term, isTerm := l[1].(int64)
	s := api.Snap{Index: index, Term: term, Data: string(bytes.Join(payloads[1:], nil))}
	if !isIndex || !isTerm || !maySnap(s) || len(s.Data) > api.MaxSnap {
		return api.Snap{}, false
	}
	// A snapshot has only one file: whatever else may be wrong with the number, the lengths or the end of the pieces
	// makes the bytes differ.
	if !bytes.Equal(b, snapRecords(s)) {
		return api.Snap{}, false
	}
	return s, true
}
