package sched_test

import (
	"math"
	"math/big"
	"slices"
	"strings"

	"provost/api"
	"provost/cmd"
	"provost/wire"
)

const top = math.MaxInt64

// The limits, by number: the tests reach and pass them.
const (
	mostNodes   = 32
	mostTenants = 32
	mostJobs    = 128
)

// account is a second account of a Sched, by the chapter's words: three lists in the order in which things were
// created. What is used is not kept, but summed each time in whole numbers.
type account struct {
	nodes   []api.Node
	tenants []api.Tenant
	jobs    []api.Job
}

// lower is the key of a name.
func lower(s string) string {
	return strings.Map(func(r rune) rune {
		if r >= 'A' && r <= 'Z' {
			return r + 'a' - 'A'
		}
		return r
	}, s)
}

func same(a, b string) bool { return lower(a) == lower(b) }

// byKey is the order by name.
func byKey(a, b string) int { return slices.Compare([]rune(lower(a)), []rune(lower(b))) }

func (a *account) node(s string) int {
	return slices.IndexFunc(a.nodes, func(n api.Node) bool { return same(n.Name, s) })
}

func (a *account) tenant(s string) int {
	return slices.IndexFunc(a.tenants, func(t api.Tenant) bool { return same(t.Name, s) })
}

func (a *account) job(s string) int {
	return slices.IndexFunc(a.jobs, func(j api.Job) bool { return same(j.Name, s) })
}

// amounts are a Vec's numbers, without bounds.
type amounts [api.Resources]*big.Int

// sum is the sum of Vecs.
func sum(l ...api.Vec) amounts {
	var a amounts
	for i := range a {
		a[i] = new(big.Int)
		for _, v := range l {
			a[i].Add(a[i], big.NewInt(v[i]))
		}
	}
	return a
}

// within tells whether no amount is above v's.
func (a amounts) within(v api.Vec) bool {
	for i := range a {
		if a[i].Cmp(big.NewInt(v[i])) > 0 {
			return false
		}
	}
	return true
}

// vec is the Vec of the amounts, which are no greater than a Vec's may be.
func (a amounts) vec() api.Vec {
	var v api.Vec
	for i := range a {
		v[i] = a[i].Int64()
	}
	return v
}

// demands are the demands of the jobs that are told to count.
func (a *account) demands(counts func(api.Job) bool) []api.Vec {
	var l []api.Vec
	for _, j := range a.jobs {
		if counts(j) {
			l = append(l, j.V)
		}
	}
	return l
}

// on are the demands of the jobs on a node.
func (a *account) on(node string) []api.Vec {
	return a.demands(func(j api.Job) bool { return same(j.Node, node) })
}

// of are the demands of a tenant's jobs.
func (a *account) of(tenant string) []api.Vec {
	return a.demands(func(j api.Job) bool { return same(j.Tenant, tenant) })
}

// do does a command.
func (a *account) do(c api.Cmd) api.Reply {
	if !cmd.May(c) {
		return api.Reply{E: api.ErrForm}
	}
	switch c.Op {
	case api.CmdNode, api.CmdTenant:
		return api.Reply{E: a.set(c)}
	case api.CmdDrain, api.CmdDrop:
		return api.Reply{E: a.change(c)}
	case api.CmdSubmit:
		return a.submit(c)
	case api.CmdKill, api.CmdReport:
		return a.end(c)
	}
	return a.ask(c)
}

func (a *account) set(c api.Cmd) api.Errno {
	switch i, k := a.node(c.Name), a.tenant(c.Name); {
	case c.Op == api.CmdNode && i >= 0:
		if !sum(a.on(c.Name)...).within(c.V) {
			return api.ErrUsed
		}
		a.nodes[i].Cap = c.V
	case c.Op == api.CmdNode:
		if len(a.nodes) >= mostNodes {
			return api.ErrMany
		}
		a.nodes = append(a.nodes, api.Node{Name: c.Name, Cap: c.V})
	case k >= 0:
		if !sum(a.of(c.Name)...).within(c.V) {
			return api.ErrQuota
		}
		a.tenants[k].Quota = c.V
	default:
		if len(a.tenants) >= mostTenants {
			return api.ErrMany
		}
		a.tenants = append(a.tenants, api.Tenant{Name: c.Name, Quota: c.V})
	}
	return api.OK
}

func (a *account) change(c api.Cmd) api.Errno {
	i := a.node(c.Name)
	switch {
	case i < 0:
		return api.ErrNone
	case c.Op == api.CmdDrain:
		a.nodes[i].Drain = c.N == 1
	case len(a.on(c.Name)) > 0:
		return api.ErrUsed
	default:
		a.nodes = slices.Delete(a.nodes, i, i+1)
	}
	return api.OK
}

func (a *account) submit(c api.Cmd) api.Reply {
	if a.job(c.Name) >= 0 {
		return api.Reply{E: api.ErrTwice}
	}
	if len(a.jobs) >= mostJobs {
		return api.Reply{E: api.ErrMany}
	}
	k := a.tenant(c.Of)
	if k < 0 {
		return api.Reply{E: api.ErrNone}
	}
	spent := sum(append(a.of(c.Of), c.V)...)
	if !spent.within(api.Vec{top, top, top}) {
		return api.Reply{E: api.ErrOver}
	}
	if !spent.within(a.tenants[k].Quota) {
		return api.Reply{E: api.ErrQuota}
	}
	i := a.choose(c.V)
	if i < 0 {
		return api.Reply{E: api.ErrRoom}
	}
	a.jobs = append(a.jobs, api.Job{Name: c.Name, Tenant: a.tenants[k].Name, V: c.V, Node: a.nodes[i].Name})
	return api.Reply{S: a.nodes[i].Name}
}

// choose is where the node is that a demand goes to, or -1: the least score goes first, and then the key.
func (a *account) choose(v api.Vec) int {
	best := -1
	for i, n := range a.nodes {
		used := sum(append(a.on(n.Name), v)...)
		if n.Drain || !used.within(n.Cap) {
			continue
		}
		if best >= 0 {
			m := a.nodes[best]
			by := share(used, n.Cap) - share(sum(append(a.on(m.Name), v)...), m.Cap)
			if by > 0 || by == 0 && byKey(n.Name, m.Name) > 0 {
				continue
			}
		}
		best = i
	}
	return best
}

// share is the greatest share that a, which is within v, has of it, in thousandths.
func share(a amounts, v api.Vec) int64 {
	greatest := int64(0)
	for i := range a {
		if v[i] > 0 {
			n := new(big.Int).Mul(a[i], big.NewInt(1000))
			greatest = max(greatest, n.Quo(n, big.NewInt(v[i])).Int64())
		}
	}
	return greatest
}

func (a *account) end(c api.Cmd) api.Reply {
	i := a.job(c.Name)
	if i < 0 || c.Op == api.CmdReport && !same(a.jobs[i].Node, c.Of) {
		return api.Reply{E: api.ErrNone}
	}
	if c.Op == api.CmdReport {
		a.jobs[i].Status = c.N
		return api.Reply{}
	}
	on := a.jobs[i].Node
	a.jobs = slices.Delete(a.jobs, i, i+1)
	return api.Reply{S: on}
}

func (a *account) ask(c api.Cmd) api.Reply {
	if !cmd.Asks(c) {
		return api.Reply{E: api.ErrForm}
	}
	i := map[int]int{api.CmdJob: a.job(c.Name), api.CmdUsed: a.node(c.Name), api.CmdSpent: a.tenant(c.Name)}[c.Op]
	switch {
	case i < 0:
		return api.Reply{E: api.ErrNone}
	case c.Op == api.CmdJob:
		return api.Reply{S: a.jobs[i].Node, V: a.jobs[i].V, N: a.jobs[i].Status}
	case c.Op == api.CmdUsed:
		return api.Reply{V: sum(a.on(c.Name)...).vec(), N: int64(len(a.on(c.Name)))}
	}
	return api.Reply{V: sum(a.of(c.Name)...).vec(), N: int64(len(a.of(c.Name)))}
}

// rows are the nodes, tenants and jobs by name.
func (a *account) rows() ([]api.Node, []api.Tenant, []api.Job) {
	nodes, tenants, jobs := slices.Clone(a.nodes), slices.Clone(a.tenants), slices.Clone(a.jobs)
	for i := range nodes {
		nodes[i].Used = sum(a.on(nodes[i].Name)...).vec()
	}
	for i := range tenants {
		tenants[i].Used = sum(a.of(tenants[i].Name)...).vec()
	}
	slices.SortFunc(nodes, func(x, y api.Node) int { return byKey(x.Name, y.Name) })
	slices.SortFunc(tenants, func(x, y api.Tenant) int { return byKey(x.Name, y.Name) })
	slices.SortFunc(jobs, func(x, y api.Job) int { return byKey(x.Name, y.Name) })
	return nodes, tenants, jobs
}

// save is the text that is saved.
func (a *account) save() string { return encoded(a.item()) }

// item is the item that is saved.
func (a *account) item() api.Item {
	nodes, tenants, jobs := a.rows()
	l := [3]api.Item{lst(), lst(), lst()}
	for _, n := range nodes {
		drained := int64(0)
		if n.Drain {
			drained = 1
		}
		l[0].L = append(l[0].L, nodeItem(n.Name, n.Cap, drained))
	}
	for _, t := range tenants {
		l[1].L = append(l[1].L, tenantItem(t.Name, t.Quota))
	}
	for _, j := range jobs {
		l[2].L = append(l[2].L, jobItem(j.Name, j.Tenant, j.V, j.Node, j.Status))
	}
	return lst(l[:]...)
}

// The tests write items by themselves, so that they can write what is never saved too.

func num(n int64) api.Item { return api.Item{Kind: api.Number, N: n} }

func txt(s string) api.Item { return api.Item{Kind: api.Text, S: s} }

func lst(l ...api.Item) api.Item { return api.Item{Kind: api.List, L: l} }

func vecItem(v api.Vec) api.Item { return lst(num(v[0]), num(v[1]), num(v[2])) }

func nodeItem(name string, most api.Vec, drained int64) api.Item {
	return lst(txt(name), vecItem(most), num(drained))
}

func tenantItem(name string, quota api.Vec) api.Item { return lst(txt(name), vecItem(quota)) }

func jobItem(name, tenant string, v api.Vec, node string, status int64) api.Item {
	return lst(txt(name), txt(tenant), vecItem(v), txt(node), num(status))
}

// encoded is the encoding of an item that has one.
func encoded(i api.Item) string {
	b, e := wire.Encode(i)
	if e != api.OK {
		panic("no item")
	}
	return string(b)
}
