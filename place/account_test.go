package place

import (
	"math"
	"math/big"
	"math/rand"
	"slices"
	"strings"

	"provost/api"
)

const (
	top    = math.MaxInt64
	bottom = math.MinInt64
)

var (
	// names are such as name.Less has in this order: by runes, not by keys.
	names = []string{
		"!", "0", "A", "Z", "a", "a-", "aa", "ab", "b", "b0", "b00", "n0", "n10", "n2", strings.Repeat("z", 24), "~",
		"é", "中", strings.Repeat("中", 24), "\uE000", "\uFF5E", "😀", strings.Repeat("😀", 24),
	}
	// notNames are none.
	notNames = []string{
		"", "-", "-a", "a b", " ", "a\x00", "a\n", "\x7f", "\u0085", "\u00a0", "\u2028", "a\u2029", "\uFFFD", "\xff", "a\xff",
		"\xed\xa0\x80", strings.Repeat("z", 25), strings.Repeat("中", 25), strings.Repeat("a", 1<<16),
	}
	// telling are amounts at and about the ends of 64 bits, and about 0.
	telling = []int64{bottom, bottom + 1, -top, -1000, -2, -1, 0, 1, 2, 3, 999, 1000, 1001, top / 2, top/2 + 1, top - 1, top}
)

// at is the Vec with n at i, and with others beside it.
func at(i int, n, others int64) api.Vec {
	v := api.Vec{others, others, others}
	v[i] = n
	return v
}

// node is a node of the capacities and uses that are told, ahead of what is 0.
func node(name string, most, used api.Vec) api.Node {
	return api.Node{Name: name, Cap: most, Used: used}
}

// one is a node of one resource.
func one(name string, most, used int64) api.Node {
	return node(name, api.Vec{most}, api.Vec{used})
}

// drained is n, but drained.
func drained(n api.Node) api.Node {
	n.Drain = true
	return n
}

// validByAccount is what May has to tell, of nodes whose names are of names or notNames.
func validByAccount(n api.Node) bool {
	if !slices.Contains(names, n.Name) {
		return false
	}
	for i := range n.Cap {
		if n.Cap[i] < 0 || n.Used[i] < 0 || n.Used[i] > n.Cap[i] {
			return false
		}
	}
	return true
}

// scoreByAccount is what Score has to tell, in whole numbers.
func scoreByAccount(n api.Node, v api.Vec) int64 {
	if n.Drain || !validByAccount(n) {
		return -1
	}
	greatest := int64(0)
	for i := range v {
		most := big.NewInt(n.Cap[i])
		sum := new(big.Int).Add(big.NewInt(n.Used[i]), big.NewInt(v[i]))
		if v[i] < 0 || sum.Cmp(most) > 0 {
			return -1
		}
		if most.Sign() > 0 {
			sum.Mul(sum, big.NewInt(1000))
			greatest = max(greatest, sum.Quo(sum, most).Int64())
		}
	}
	return greatest
}

// rankByAccount is what Rank has to tell: by the chapter's words the first of those that are left, again and again.
func rankByAccount(l []api.Node, v api.Vec) []int {
	var left, ranked []int
	for i, n := range l {
		if scoreByAccount(n, v) >= 0 {
			left = append(left, i)
		}
	}
	for len(left) > 0 {
		first := 0
		for k, i := range left {
			if aheadByAccount(l, v, i, left[first]) {
				first = k
			}
		}
		ranked = append(ranked, left[first])
		left = slices.Delete(left, first, first+1)
	}
	return ranked
}

func aheadByAccount(l []api.Node, v api.Vec, i, j int) bool {
	if a, b := scoreByAccount(l[i], v), scoreByAccount(l[j], v); a != b {
		return a < b
	}
	if by := slices.Compare([]rune(l[i].Name), []rune(l[j].Name)); by != 0 {
		return by < 0
	}
	return i < j
}

// anyAmount is of all sizes, but not below 0.
func anyAmount(r *rand.Rand) int64 { return int64(r.Uint64()>>1) >> r.Intn(64) }

// anyNode is now and then drained or not valid, and often much like the others.
func anyNode(r *rand.Rand) api.Node {
	n := api.Node{Name: names[r.Intn(len(names))], Drain: r.Intn(8) == 0}
	for i := range n.Cap {
		n.Cap[i] = int64(r.Intn(9))
		if r.Intn(4) == 0 {
			n.Cap[i] = anyAmount(r)
		}
		n.Used[i] = min(anyAmount(r), int64(r.Intn(3)), n.Cap[i])
		if r.Intn(4) == 0 {
			n.Used[i] = n.Cap[i] - min(anyAmount(r), n.Cap[i])
		}
	}
	switch k := r.Intn(api.Resources); r.Intn(12) {
	case 0:
		n.Name = notNames[r.Intn(len(notNames))]
	case 1:
		n.Cap[k] = -1 - anyAmount(r)
	case 2:
		n.Used[k] = -1 - anyAmount(r)
	case 3:
		n.Used[k] = max(n.Cap[k], anyAmount(r))
	}
	return n
}

// anyDemand is small more often than not, and now and then not valid.
func anyDemand(r *rand.Rand) api.Vec {
	var v api.Vec
	for i := range v {
		v[i] = int64(r.Intn(3))
		if r.Intn(8) == 0 {
			v[i] = anyAmount(r)
		}
		if r.Intn(40) == 0 {
			v[i] = -1 - anyAmount(r)
		}
	}
	return v
}

// anyRow is of up to n nodes, some of them twice.
func anyRow(r *rand.Rand, n int) []api.Node {
	var l []api.Node
	for range r.Intn(n + 1) {
		if len(l) > 0 && r.Intn(4) == 0 {
			l = append(l, l[r.Intn(len(l))])
		} else {
			l = append(l, anyNode(r))
		}
	}
	return l
}
