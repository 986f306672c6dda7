package wire

import (
	"slices"

	"provost/api"
)

// maxDigits is the most bytes that a count's number may have.
const maxDigits = 8

// refusal is what a reader panics with when the bytes are no encoding. It is a type of its own so that the caller
// can tell it from any other panic.
type refusal struct{ errno api.Errno }

// errnoOf returns the error that a recovered panic stands for. No call may panic or answer a broken item, so
// whatever is no refusal counts as bytes that can't be read.
func errnoOf(thrown any) api.Errno {
	if r, ok := thrown.(refusal); ok {
		return r.errno
	}
	return api.ErrForm
}

// reader takes items off the front of bytes. Its methods panic with a refusal at the first fault.
type reader struct {
	rest []byte
	left int // items that may still be announced
}

func (r *reader) refuse() { panic(refusal{api.ErrForm}) }

// end refuses bytes behind the item.
func (r *reader) end() {
	if len(r.rest) > 0 {
		r.refuse()
	}
}

// reserve refuses more items than the limit lets in. It is asked before they are read, so that no list is made
// longer than it may be, whatever count its bytes announce.
func (r *reader) reserve(n uint64) {
	if n > uint64(r.left) {
		r.refuse()
	}
	r.left -= int(n)
}

// take returns the next n bytes.
func (r *reader) take(n uint64) []byte {
	if n > uint64(len(r.rest)) {
		r.refuse()
	}
	b := r.rest[:n]
	r.rest = r.rest[n:]
	return b
}

// count reads a count.
func (r *reader) count() uint64 {
	d := r.take(1)[0]
	if d > maxDigits {
		r.refuse()
	}
	var n uint64
	for k, b := range r.take(uint64(d)) {
		if k == 0 && b == 0 {
			r.refuse()
		}
		n = n<<8 | uint64(b)
	}
	return n
}

// item reads an item that has been reserved.
func (r *reader) item(depth int) api.Item {
	if depth > api.MaxDepth {
		r.refuse()
	}
	i := api.Item{Kind: int(r.take(1)[0])}
	switch i.Kind {
	case api.Number:
		i.N = unfold(r.count())
	case api.Text:
		i.S = r.text()
	case api.List:
		i.L = r.list(depth)
	default:
		r.refuse()
	}
	return i
}

// text reads a text's count and bytes.
func (r *reader) text() string {
	n := r.count()
	if n > api.MaxText {
		r.refuse()
	}
	return string(r.take(n))
}

// list reads the count and the elements of a list at this depth.
func (r *reader) list(depth int) []api.Item {
	n := r.count()
	r.reserve(n)
	l := slices.Grow([]api.Item(nil), int(n))
	for range n {
		l = append(l, r.item(depth+1))
	}
	return l
}
