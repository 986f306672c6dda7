package rlog_test

import (
	"provost/api"
	"provost/rlog"
)

// end is the greatest index, by number.
const end = int64(1) << 62

// log is what a Log and its second account have in common.
type log interface {
	Base() (int64, int64)
	Last() (int64, int64)
	Term(i int64) (int64, bool)
	From(i int64, many int) []api.Entry
	Newer(index, term int64) bool
	Put(prev, term int64, l []api.Entry) (int64, api.Errno)
	Cut(i int64) api.Errno
	Reset(index, term int64) bool
}

// account is a second account of a log, by the chapter's words: entries by their indexes.
type account struct {
	index, term int64
	entries     map[int64]api.Entry
}

// newAccount makes the account of a log that may be.
func newAccount(index, term int64, l []api.Entry) *account {
	a := &account{index, term, map[int64]api.Entry{}}
	for k, x := range l {
		a.entries[index+1+int64(k)] = x
	}
	return a
}

// both are a Log and its account.
func both(index, term int64, l []api.Entry) (log, log) {
	return rlog.New(index, term, l), newAccount(index, term, l)
}

func (a *account) Base() (int64, int64) { return a.index, a.term }

func (a *account) Last() (int64, int64) {
	i, term := a.Base()
	for {
		x, has := a.entries[i+1]
		if !has {
			return i, term
		}
		i, term = i+1, x.Term
	}
}

func (a *account) Term(i int64) (int64, bool) {
	if i == a.index {
		return a.term, true
	}
	x, has := a.entries[i]
	return x.Term, has
}

func (a *account) From(i int64, many int) []api.Entry {
	var l []api.Entry
	for len(l) < many {
		x, has := a.entries[i]
		if !has {
			break
		}
		l = append(l, x)
		i++
	}
	return l
}

func (a *account) Newer(index, term int64) bool {
	last, latest := a.Last()
	if term == latest {
		return index >= last
	}
	return term > latest
}

func (a *account) Put(prev, term int64, l []api.Entry) (int64, api.Errno) {
	if prev < 0 || uint64(prev)+uint64(len(l)) > uint64(end) {
		return 0, 2
	}
	if prev < a.index && prev+int64(len(l)) <= a.index {
		return 0, 32
	}
	if has, known := a.Term(prev); prev >= a.index && (!known || has != term) {
		return 0, 10
	}
	first := int64(0)
	for k, x := range l {
		i := prev + int64(k) + 1
		has, known := a.entries[i]
		if i > a.index && first == 0 && (!known || has.Term != x.Term) {
			first = i
			a.lose(i, end)
		}
		if first != 0 {
			a.entries[i] = x
		}
	}
	return first, 0
}

// lose removes the entries from one index to another.
func (a *account) lose(from, to int64) {
	for i := range a.entries {
		if i >= from && i <= to {
			delete(a.entries, i)
		}
	}
}

func (a *account) Cut(i int64) api.Errno {
	last, _ := a.Last()
	if i < a.index || i > last {
		return 2
	}
	a.term, _ = a.Term(i)
	a.index = i
	a.lose(0, i)
	return 0
}

func (a *account) Reset(index, term int64) bool {
	if index < a.index || term < 0 || index > end {
		return false
	}
	if had, known := a.Term(index); !known || had != term {
		a.entries = map[int64]api.Entry{}
	}
	a.index, a.term = index, term
	a.lose(0, index)
	return true
}
