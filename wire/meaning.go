package wire

import "provost/api"

// meaning returns the int64, the string or the []api.Item that i stands for, and nil if its kind is none or forbids
// one of its fields. The elements of a list are not looked into: each is asked for its own meaning.
func meaning(i api.Item) any {
	switch {
	case i.Kind == api.Number && i.S == "" && len(i.L) == 0:
		return i.N
	case i.Kind == api.Text && i.N == 0 && len(i.L) == 0:
		return i.S
	case i.Kind == api.List && i.N == 0 && i.S == "":
		return i.L
	}
	return nil
}

// fold returns the unsigned number that represents n: small numbers of either sign become small ones.
func fold(n int64) uint64 { return uint64(n)<<1 ^ uint64(n>>63) }

// unfold returns the number that u represents.
func unfold(u uint64) int64 { return int64(u>>1) ^ -int64(u&1) }
