package sched_test

import (
	"encoding/hex"
	"fmt"
	"math"
	"slices"
	"strings"
	"testing"

	"provost/api"
	"provost/cmd"
	"provost/sched"
	"provost/wire"
)

// P11.3: what is saved, byte by byte.
func TestSavedBytes(t *testing.T) {
	for _, c := range []struct{ text, digits string }{
		{"job j: None", "030103 0300 0300 0300"},
		{"node a 1 300", "030103 030101 030103 02010161 030103 010102 01020258 0100 0100 0300 0300"},
		{"tenant ä 0 0 9223372036854775807", "030103 0300 030101 030102 020102c3a4 030103 0100 0100 0108fffffffffffffffe 0300"},
		{
			"node B 4; node a 2 0 1; drain A 1; tenant T 3; submit J t 2: B; report j b 2",
			"030103 030102 030103 02010161 030103 010104 0100 010102 010102 030103 02010142 030103 010108 0100 0100 0100" +
				"030101 030102 02010154 030103 010106 0100 0100" +
				"030101 030105 0201014a 02010154 030103 010104 0100 0100 02010142 010104",
		},
	} {
		p := newPlay(t, c.text)
		p.run(c.text)
		want, err := hex.DecodeString(strings.ReplaceAll(c.digits, " ", ""))
		if err != nil {
			t.Fatal(err)
		}
		if got := p.s.Save(); got != string(want) {
			t.Errorf("%s: %x, not %x", c.text, got, want)
		}
	}
}

// sample is a state with something of everything.
func sample(t *testing.T) *play {
	t.Helper()
	p := newPlay(t, "sample")
	p.run("node a 9 9 9; node B 7 7; node c 5; node D; tenant t 9 9 9; tenant U 8; tenant v")
	p.run("submit i t 1 2 3: a; submit J T 2 1: B; submit k u 3: a; submit L U 1: c; submit m v: D; report J b 1; report k a 2; report m d 1; drain a 1; drain D 1; node c 3; tenant U 4")
	return p
}

// loadable is a second account of what may be loaded: it reads text by the chapter's words, part by part.
func loadable(text string) (*account, bool) {
	i, e := wire.Decode([]byte(text))
	if e != api.OK || !isList(i, 3) {
		return nil, false
	}
	var a account
	for _, x := range i.L[0].L {
		if !isList(x, 3) || x.L[0].Kind != api.Text || x.L[2].Kind != api.Number || !isAmounts(x.L[1]) {
			return nil, false
		}
		a.nodes = append(a.nodes, api.Node{Name: x.L[0].S, Cap: amountsOf(x.L[1]), Drain: x.L[2].N == 1})
		if x.L[2].N < 0 || x.L[2].N > 1 {
			return nil, false
		}
	}
	for _, x := range i.L[1].L {
		if !isList(x, 2) || x.L[0].Kind != api.Text || !isAmounts(x.L[1]) {
			return nil, false
		}
		a.tenants = append(a.tenants, api.Tenant{Name: x.L[0].S, Quota: amountsOf(x.L[1])})
	}
	for _, x := range i.L[2].L {
		if !isList(x, 5) || x.L[0].Kind != api.Text || x.L[1].Kind != api.Text || !isAmounts(x.L[2]) || x.L[3].Kind != api.Text || x.L[4].Kind != api.Number {
			return nil, false
		}
		a.jobs = append(a.jobs, api.Job{Name: x.L[0].S, Tenant: x.L[1].S, V: amountsOf(x.L[2]), Node: x.L[3].S, Status: x.L[4].N})
	}
	for _, x := range i.L {
		if x.Kind != api.List {
			return nil, false
		}
	}
	return &a, a.possible()
}

func isList(i api.Item, n int) bool { return i.Kind == api.List && len(i.L) == n }

func isAmounts(i api.Item) bool {
	return isList(i, 3) && !slices.ContainsFunc(i.L, func(x api.Item) bool { return x.Kind != api.Number || x.N < 0 })
}

func amountsOf(i api.Item) api.Vec { return api.Vec{i.L[0].N, i.L[1].N, i.L[2].N} }

// possible tells whether commands could come to this.
func (a *account) possible() bool {
	if len(a.nodes) > mostNodes || len(a.tenants) > mostTenants || len(a.jobs) > mostJobs {
		return false
	}
	last := ""
	ordered := func(s string) bool {
		fits := cmd.May(api.Cmd{Op: api.CmdKill, Name: s}) && (last == "" || byKey(last, s) < 0)
		last = s
		return fits
	}
	for _, n := range a.nodes {
		if !ordered(n.Name) || !sum(a.on(n.Name)...).within(n.Cap) {
			return false
		}
	}
	last = ""
	for _, x := range a.tenants {
		if !ordered(x.Name) || !sum(a.of(x.Name)...).within(x.Quota) {
			return false
		}
	}
	last = ""
	for _, j := range a.jobs {
		hasNode := slices.ContainsFunc(a.nodes, func(n api.Node) bool { return n.Name == j.Node })
		hasTenant := slices.ContainsFunc(a.tenants, func(t api.Tenant) bool { return t.Name == j.Tenant })
		if !ordered(j.Name) || !hasNode || !hasTenant || j.Status < 0 || j.Status > 2 {
			return false
		}
	}
	return true
}

// checkLoad loads a text, and checks what comes of it by the second account.
func checkLoad(t *testing.T, what, text string) bool {
	t.Helper()
	a, may := loadable(text)
	s, e := sched.Load(text)
	if !may {
		if s != nil || e != api.ErrForm {
			t.Errorf("%s: %.400x is loaded: %d", what, text, e)
		}
		return false
	}
	if s == nil || e != api.OK {
		t.Errorf("%s: %.400x is not loaded: %d", what, text, e)
		return true
	}
	check(t, what, s, a)
	if got := s.Save(); got != text {
		t.Errorf("%s: %.400x is saved as %.400x", what, text, got)
	}
	return true
}

// refused checks that an item is not loaded.
func refused(t *testing.T, what string, i api.Item) {
	t.Helper()
	if checkLoad(t, what, encoded(i)) {
		t.Errorf("%s: it may be loaded", what)
	}
}

// copied is an item that shares nothing with i.
func copied(i api.Item) api.Item {
	i.L = slices.Clone(i.L)
	for k := range i.L {
		i.L[k] = copied(i.L[k])
	}
	return i
}

// at is the part of an item that is reached by positions.
func at(i *api.Item, path ...int) *api.Item {
	for _, k := range path {
		i = &i.L[k]
	}
	return i
}

// P11.3: texts that are no item's.
func TestLoadNoItem(t *testing.T) {
	text := sample(t).s.Save()
	for what, s := range map[string]string{
		"nothing": "", "a word": "sched", "zeros": strings.Repeat("\x00", 50), "ones": strings.Repeat("\xff", 50),
		"lists cut short": strings.Repeat("\x03\x01\x01", 1<<16), "a list of 2^64 - 1": "\x03\x08" + strings.Repeat("\xff", 8),
		"twice": text + text, "a byte ahead": "\x03" + text, "an item behind": text + "\x03\x00",
		"a long count": "\x03\x02\x00\x03" + text[3:], "long": strings.Repeat("\x03", 1<<22), "text and more": text + strings.Repeat("a", 1<<20),
		"too many items": "\x03\x02\x20\x00" + strings.Repeat("\x01\x00", 1<<13),
	} {
		if checkLoad(t, what, s) {
			t.Errorf("%s: it may be loaded", what)
		}
	}
}

// P11.3: items of another form.
func TestLoadOtherForms(t *testing.T) {
	base := sample(t).a.item()
	for what, i := range map[string]api.Item{
		"a number": num(5), "a text": txt("a"), "its text": txt(encoded(base)[:200]), "nothing": lst(), "one list": lst(lst()), "two lists": lst(lst(), lst()),
		"four lists": lst(lst(), lst(), lst(), lst()), "in a list": lst(base), "three numbers": lst(num(0), num(0), num(0)), "three texts": lst(txt(""), txt(""), txt("")),
		"a number more": lst(append(slices.Clone(base.L), num(0))...), "a list more": lst(append(slices.Clone(base.L), lst())...),
		"no jobs' list": lst(base.L[0], base.L[1]), "no nodes' list": lst(base.L[1], base.L[2]), "tenants ahead": lst(base.L[1], base.L[0], base.L[2]),
		"jobs ahead": lst(base.L[2], base.L[0], base.L[1]), "no nodes": lst(lst(), base.L[1], base.L[2]), "no tenants": lst(base.L[0], lst(), base.L[2]),
	} {
		refused(t, what, i)
	}
	var walk func(path []int)
	walk = func(path []int) {
		part := *at(&base, path...)
		others := []api.Item{num(0), num(1), txt(""), txt("a"), lst(), lst(num(0)), lst(part), lst(part, part)}
		for k, other := range others {
			i := copied(base)
			*at(&i, path...) = other
			checkLoad(t, fmt.Sprint("other ", k, " at ", path), encoded(i))
			if other.Kind != part.Kind || other.Kind == api.List && len(path) > 1 {
				refused(t, fmt.Sprint("other ", k, " at ", path), i)
			}
		}
		for k := range part.L {
			i := copied(base)
			at(&i, path...).L = slices.Delete(at(&i, path...).L, k, k+1)
			checkLoad(t, fmt.Sprint("without ", k, " at ", path), encoded(i))
			for _, more := range []api.Item{num(0), txt(""), lst(), part.L[k]} {
				i = copied(base)
				at(&i, path...).L = slices.Insert(at(&i, path...).L, k, copied(more))
				refused(t, fmt.Sprint("one more at ", path, k), i)
				i = copied(base)
				at(&i, path...).L = append(at(&i, path...).L, copied(more))
				refused(t, fmt.Sprint("one more behind ", path), i)
			}
			walk(append(slices.Clone(path), k))
		}
	}
	walk(nil)
}

// P11.3: names that are none, wrong order, two things of one name, and names that nothing has.
func TestLoadNames(t *testing.T) {
	base := sample(t).a.item()
	set := func(what, s string, path ...int) {
		t.Helper()
		i := copied(base)
		at(&i, path...).S = s
		refused(t, what+" "+s[:min(len(s), 30)], i)
	}
	for _, s := range []string{"", "-", "-a", "a b", "a\x00", "\x7f", "\u00a0", "\u2028", "\ufffd", "\xff", strings.Repeat("a", 25), strings.Repeat("a", api.MaxText)} {
		for k := range 3 {
			for j := range base.L[k].L {
				set("no name", s, k, j, 0)
			}
			refused(t, "no name alone", lst(slices.Insert([]api.Item{lst(), lst()}, k, lst([]api.Item{nodeItem(s, api.Vec{}, 0), tenantItem(s, api.Vec{}), jobItem(s, s, api.Vec{}, s, 0)}[k]))...))
		}
		set("no tenant's name", s, 2, 0, 1)
		set("no node's name", s, 2, 0, 3)
	}
	for k := range 3 {
		for j := 1; j < len(base.L[k].L); j++ {
			i := copied(base)
			i.L[k].L[j-1], i.L[k].L[j] = i.L[k].L[j], i.L[k].L[j-1]
			refused(t, "wrong order", i)
			mine := base.L[k].L[j-1].L[0].S
			set("two of one name", mine, k, j, 0)
			set("two of one name", strings.ToUpper(mine), k, j, 0)
			set("two of one name", strings.ToLower(mine), k, j, 0)
		}
		i := copied(base)
		slices.Reverse(i.L[k].L)
		refused(t, "all the other way round", i)
	}
	for j := range base.L[2].L {
		for _, s := range []string{"x", "", "j", "i"} {
			set("no such tenant", s, 2, j, 1)
			set("no such node", s, 2, j, 3)
		}
		of, on := base.L[2].L[j].L[1].S, base.L[2].L[j].L[3].S
		for _, s := range []string{strings.ToUpper(of), strings.ToLower(of)} {
			if s != of {
				set("a tenant's other spelling", s, 2, j, 1)
			}
		}
		for _, s := range []string{strings.ToUpper(on), strings.ToLower(on)} {
			if s != on {
				set("a node's other spelling", s, 2, j, 3)
			}
		}
		set("a node for a tenant", on, 2, j, 1)
		set("a tenant for a node", of, 2, j, 3)
	}
	// B before a would be in order by bytes, and Z before _ too.
	refused(t, "order by bytes", lst(lst(nodeItem("B", api.Vec{}, 0), nodeItem("a", api.Vec{}, 0)), lst(), lst()))
	refused(t, "order by bytes", lst(lst(), lst(tenantItem("Z", api.Vec{}), tenantItem("_", api.Vec{})), lst()))
}

// P11.3: amounts, statuses and drained numbers that can't be; quotas and capacities that are passed, and those that
// are just reached.
func TestLoadNumbers(t *testing.T) {
	base := sample(t).a.item()
	var walk func(path []int)
	walk = func(path []int) {
		part := *at(&base, path...)
		if part.Kind == api.Number {
			for _, n := range []int64{-1, 0, 1, 2, 3, 4, 5, 255, 256, 257, 1 << 32, 1<<32 + 1, top - 1, top, math.MinInt64, part.N - 1, part.N + 1} {
				i := copied(base)
				at(&i, path...).N = n
				checkLoad(t, fmt.Sprint(n, " at ", path), encoded(i))
			}
		}
		for k := range part.L {
			walk(append(slices.Clone(path), k))
		}
	}
	walk(nil)
	for r := range api.Resources {
		v := func(n int64) api.Vec {
			v := api.Vec{1, 1, 1}
			v[r] = n
			return v
		}
		of := func(most, quota api.Vec, demands ...int64) api.Item {
			var jobs []api.Item
			for k, n := range demands {
				jobs = append(jobs, jobItem(jobName(k), "t", v(n), "n", 0))
			}
			return lst(lst(nodeItem("n", most, 0)), lst(tenantItem("t", quota)), lst(jobs...))
		}
		all := api.Vec{top, top, top}
		for what, c := range map[string]struct {
			i   api.Item
			may bool
		}{
			"just":                  {of(api.Vec{9, 9, 9}, api.Vec{9, 9, 9}, 4, 5), true},
			"above both":            {of(api.Vec{9, 9, 9}, api.Vec{9, 9, 9}, 4, 6), false},
			"above the node":        {of(api.Vec{9, 9, 9}, all, 4, 6), false},
			"above the quota":       {of(all, api.Vec{9, 9, 9}, 4, 6), false},
			"one above":             {of(all, api.Vec{9, 9, 9}, 10), false},
			"all there is":          {of(all, all, top), true},
			"all there is, in two":  {of(all, all, top/2, top/2+1), true},
			"one more than that":    {of(all, all, top/2+1, top/2+1), false},
			"an overflow to -2":     {of(all, all, top, top), false},
			"an overflow to 0":      {of(all, all, top, top, 1, 1), false},
			"below 0":               {of(all, all, -1), false},
			"below 0, and above":    {of(all, all, 5, -1), false},
			"a capacity below 0":    {of(v(-1), all), false},
			"a quota below 0":       {of(all, v(-1)), false},
			"in other resources":    {of(v(9), v(9), 9), true},
			"nothing in the others": {of(api.Vec{}, api.Vec{}, 0), false},
		} {
			if got := checkLoad(t, what, encoded(c.i)); got != c.may {
				t.Errorf("%s, resource %d: %t", what, r, got)
			}
		}
	}
	// The sum counts, of those on one node and of one tenant, over several of them.
	two := func(v api.Vec) api.Item {
		return lst(lst(nodeItem("m", api.Vec{3}, 1), nodeItem("n", api.Vec{3}, 0)), lst(tenantItem("t", api.Vec{3}), tenantItem("u", api.Vec{3})),
			lst(jobItem("i", "t", api.Vec{1}, "m", 0), jobItem("j", "u", api.Vec{2}, "m", 1), jobItem("k", "t", v, "n", 2), jobItem("l", "u", api.Vec{1}, "n", 2)))
	}
	if !checkLoad(t, "two and two", encoded(two(api.Vec{2}))) || !checkLoad(t, "two and two", encoded(two(api.Vec{}))) {
		t.Error("two and two aren't loaded")
	}
	refused(t, "two and two", two(api.Vec{3}))
}

// P11.3: the bytes of a saved Sched with any one of them turned, without it, with one more, and cut short.
func TestLoadChangedBytes(t *testing.T) {
	p := newPlay(t, "small")
	p.run("node a 4; node B 3 2 1; tenant t 9 2 2; submit j t 2: a; submit K t 1 1: B; report k b 1; drain a 1")
	text := p.s.Save()
	loaded := 0
	load := func(what string, k, x int, s string) {
		t.Helper()
		if checkLoad(t, fmt.Sprint(what, " ", k, " ", x), s) {
			loaded++
		}
	}
	for k := range text {
		for x := range 256 {
			load("turned", k, x, text[:k]+string([]byte{byte(x)})+text[k+1:])
			load("more", k, x, text[:k]+string([]byte{byte(x)})+text[k:])
		}
		load("less", k, 0, text[:k]+text[k+1:])
		load("up to", k, 0, text[:k])
		load("from", k+1, 0, text[k+1:])
	}
	for x := range 256 {
		load("behind", len(text), x, text+string([]byte{byte(x)}))
	}
	// Each byte is one of those that may stand there, and names and amounts may be others too.
	if loaded < len(text)+100 {
		t.Errorf("only %d are loaded", loaded)
	}
}

// P11.3: a job may be on a drained node, also where all nodes are drained; and a Sched without jobs is loaded too.
func TestLoadOrdinary(t *testing.T) {
	for _, text := range []string{
		"job j: None", "node a 4", "tenant t 4", "node a 4; drain a 1", "node a; node b; drain a 1; drain b 1; tenant t",
		"node a; tenant t; submit j t: a; drain a 1", "node A 1 2 3; node b 9; tenant T 4; tenant u 9; submit j t 1: b; submit K u 1: b; drain b 1; submit l u 1: A; drain a 1; report K b 2; report l a 1",
	} {
		p := newPlay(t, text)
		p.run(text)
		s, e := sched.Load(p.s.Save())
		if e != api.OK {
			t.Fatalf("%s: %d", text, e)
		}
		p.s = s
		check(t, text, s, p.a)
		p.run("node zz 99 99 99; tenant zz 99 99 99; submit zz zz 9 9 9: zz; used ZZ: 9,9,9/1; kill ZZ: zz; drop ZZ")
	}
}
