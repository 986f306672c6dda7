package item

import (
	"math"
	"math/rand"
	"reflect"
	"strings"
	"testing"

	"provost/api"
	"provost/wire"
)

// What is made is the item that package api describes, with no field beside those of its kind.
func TestItems(t *testing.T) {
	for _, n := range []int64{0, 1, -1, 300, math.MaxInt64, math.MinInt64} {
		if got, want := Number(n), (api.Item{Kind: api.Number, N: n}); !reflect.DeepEqual(got, want) {
			t.Errorf("Number(%d): %v", n, got)
		}
	}
	for _, s := range []string{"", "a", "ä", "\xff", strings.Repeat("a", 5000)} {
		if got, want := Text(s), (api.Item{Kind: api.Text, S: s}); !reflect.DeepEqual(got, want) {
			t.Errorf("Text(%.20q): %v", s, got)
		}
	}
	if got := List(); got.Kind != api.List || len(got.L) != 0 || got.N != 0 || got.S != "" {
		t.Errorf("List(): %v", got)
	}
	parts := []api.Item{Number(1), Text("a"), List(Number(2))}
	if got, want := List(parts...), (api.Item{Kind: api.List, L: parts}); !reflect.DeepEqual(got, want) {
		t.Errorf("List: %v", got)
	}
	if got, want := Vec(api.Vec{1, -2, 0}), List(Number(1), Number(-2), Number(0)); !reflect.DeepEqual(got, want) {
		t.Errorf("Vec: %v", got)
	}
}

// What is encoded is what wire encodes for the list, with its errors.
func TestEncode(t *testing.T) {
	for _, parts := range [][]api.Item{
		nil, {Number(5)}, {Text("a"), Text("")}, {List(), List(Vec(api.Vec{1, 2, 3}))},
		{Text(strings.Repeat("a", api.MaxText))}, {Text(strings.Repeat("a", api.MaxText+1))}, {{}}, {{Kind: 9}},
		make([]api.Item, api.MaxItems),
	} {
		b, errno := wire.Encode(api.Item{Kind: api.List, L: parts})
		if s, e := Encode(parts...); s != string(b) || e != errno {
			t.Errorf("%.60v: %.60q, %d, not %.60q, %d", parts, s, e, b, errno)
		}
	}
}

// A part is told where there is one; what is no list has none.
func TestPart(t *testing.T) {
	l := List(Number(1), Text("a"), List(Number(2)))
	for k, want := range l.L {
		if got := Part(l, k); !reflect.DeepEqual(got, want) {
			t.Errorf("part %d: %v", k, got)
		}
	}
	for _, i := range []api.Item{l, Number(5), Text("abc"), List(), {}} {
		for _, k := range []int{-1, -2, math.MinInt, len(i.L), len(i.L) + 1, math.MaxInt} {
			if got := Part(i, k); !reflect.DeepEqual(got, api.Item{}) {
				t.Errorf("%v, part %d: %v", i, k, got)
			}
		}
	}
}

// A Vec is read back from its list; what isn't there, or is no number, is 0.
func TestVecOf(t *testing.T) {
	r := rand.New(rand.NewSource(1))
	for range 1000 {
		v := api.Vec{int64(r.Uint64()), int64(r.Uint64()) >> r.Intn(64), int64(r.Intn(3))}
		if got := VecOf(Vec(v)); got != v {
			t.Errorf("%d: %d", v, got)
		}
	}
	for _, c := range []struct {
		i api.Item
		v api.Vec
	}{
		{api.Item{}, api.Vec{}},
		{Number(5), api.Vec{}},
		{Text("5"), api.Vec{}},
		{List(), api.Vec{}},
		{List(Number(1)), api.Vec{1}},
		{List(Number(1), Number(2)), api.Vec{1, 2}},
		{List(Number(1), Number(2), Number(3), Number(4)), api.Vec{1, 2, 3}},
		{List(Text("1"), List(Number(2)), Number(3)), api.Vec{0, 0, 3}},
	} {
		if got := VecOf(c.i); got != c.v {
			t.Errorf("%v: %d", c.i, got)
		}
	}
}
