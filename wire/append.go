package wire

import "provost/api"

// appendItem returns b followed by the encoding of i, which is valid.
func appendItem(b []byte, i api.Item) []byte {
	m := meaning(i)
	if n, ok := m.(int64); ok {
		return appendCount(append(b, api.Number), fold(n))
	}
	if s, ok := m.(string); ok {
		b = appendCount(append(b, api.Text), uint64(len(s)))
		return append(b, s...)
	}
	if l, ok := m.([]api.Item); ok {
		b = appendCount(append(b, api.List), uint64(len(l)))
		for _, e := range l {
			b = appendItem(b, e)
		}
	}
	return b
}

// appendCount returns b followed by the encoding of the count n.
func appendCount(b []byte, n uint64) []byte {
	d := digits(n)
	b = append(b, byte(d))
	for k := d - 1; k >= 0; k-- {
		b = append(b, byte(n>>(8*k)))
	}
	return b
}
