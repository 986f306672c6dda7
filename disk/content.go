package disk

import "slices"

// content is what is in a file.
type content struct {
	bytes []byte
	sure  int // how many of the first bytes a crash can't take
}

// first returns the first n bytes of c, copied, so that those behind them take no memory any more.
func (c content) first(n int) content {
	return content{slices.Clone(c.bytes[:n]), min(c.sure, n)}
}

// crashed returns what a crash leaves of c. It counts what is kept from the sure bytes on, because Keep may be any number.
func (c content) crashed(left Left) content {
	unsure := len(c.bytes) - c.sure
	kept := c.sure + max(0, min(left.Keep, unsure))
	if left.Zero {
		clear(c.bytes[kept:])
	} else {
		c = c.first(kept)
	}
	return content{c.bytes, len(c.bytes)}
}
