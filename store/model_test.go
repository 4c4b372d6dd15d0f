package store_test

import (
	"cmp"
	"fmt"
	"math/rand"
	"slices"
	"strings"
	"testing"

	"freshet/api"
	"freshet/arena"
	"freshet/name"
	"freshet/pack"
	"freshet/record"
	"freshet/store"
)

// folded is what is told of a set.
func folded(x api.Set) api.Set {
	x.Key.Name, x.Zone = name.Fold(x.Key.Name), name.Fold(x.Zone)
	x.RRs = slices.Clone(x.RRs)
	for i, r := range x.RRs {
		x.RRs[i] = record.Folded(r)
	}
	return x
}

// cost is what sets take, each name once.
func cost(sets ...api.Set) int {
	sum, met := 0, map[string]bool{}
	add := func(n string) {
		if !met[name.Fold(n)] {
			met[name.Fold(n)] = true
			sum += arena.Cost(len(n) + 8)
		}
	}
	for _, x := range sets {
		size, _ := pack.Size(x)
		sum += arena.Cost(size)
		add(x.Key.Name)
		add(x.Zone)
		for _, r := range x.RRs {
			for at, size := range record.Names(r.Type, r.Data) {
				add(r.Data[at : at+size])
			}
		}
	}
	return sum
}

// A held is an item, told once more.
type held struct {
	store.Item
	protected bool
	used      int // the step at which it became the newest of its part
	set       int // the step at which its expiry was set
}

// A shelf is a store, told once more.
type shelf struct {
	budget  int
	steps   int
	there   map[api.Key]*held
	evicted []api.Key
}

func (m *shelf) step() int {
	m.steps++
	return m.steps
}

// keys are those of the items that may be, in an order.
func (m *shelf) keys(mayBe func(*held) bool, less func(x, y *held) int) []api.Key {
	var l []api.Key
	for k, x := range m.there {
		if mayBe(x) {
			l = append(l, k)
		}
	}
	slices.SortFunc(l, func(j, k api.Key) int { return less(m.there[j], m.there[k]) })
	return l
}

// over are those that are over and not pinned, by time.
func (m *shelf) over(now int) []api.Key {
	return m.keys(func(x *held) bool { return x.Expiry <= now && x.Pins == 0 }, func(x, y *held) int {
		return cmp.Or(cmp.Compare(x.Expiry, y.Expiry), cmp.Compare(x.set, y.set))
	})
}

// order are those that are not pinned, as they would go.
func (m *shelf) order() []api.Key {
	part := func(x *held) int { return map[bool]int{true: 1}[x.protected] }
	return m.keys(func(x *held) bool { return x.Pins == 0 }, func(x, y *held) int {
		return cmp.Or(cmp.Compare(part(x), part(y)), cmp.Compare(x.used, y.used))
	})
}

func (m *shelf) sets() []api.Set {
	var l []api.Set
	for _, x := range m.there {
		l = append(l, x.Set)
	}
	return l
}

func (m *shelf) evict(k api.Key) {
	delete(m.there, k)
	m.evicted = append(m.evicted, k)
}

func (m *shelf) put(x api.Set, rank, now, expiry int) api.Errno {
	if _, e := pack.Size(x); e != api.OK {
		return e
	}
	if now < 0 || now > 1<<40 || expiry < 0 || expiry > 1<<40 || expiry <= now || rank < 0 || rank > 9 {
		return api.ErrArg
	}
	x = folded(x)
	if old := m.there[x.Key]; old != nil && old.Pins > 0 {
		return api.ErrPinned
	}
	delete(m.there, x.Key)
	for cost(append(m.sets(), x)...) > m.budget {
		who := append(m.over(now), m.order()...)
		if len(who) == 0 {
			return api.ErrFull
		}
		m.evict(who[0])
	}
	at := m.step()
	m.there[x.Key] = &held{Item: store.Item{Set: x, Rank: rank, Came: now, Expiry: expiry}, used: at, set: at}
	return api.OK
}

func (m *shelf) get(k api.Key, now int) (store.Item, bool) {
	x := m.there[k]
	if x == nil || x.Expiry <= now {
		return store.Item{}, false
	}
	x.protected, x.used = true, m.step()
	all := m.keys(func(x *held) bool { return x.protected }, func(x, y *held) int { return cmp.Compare(x.used, y.used) })
	if len(all) > m.budget/512 {
		m.there[all[0]].protected, m.there[all[0]].used = false, m.step()
	}
	return x.Item, true
}

// A pairing is a store and its model, to which the same is done.
type pairing struct {
	t *testing.T
	s *store.Store
	m shelf
}

func paired(t *testing.T, budget int) *pairing {
	return &pairing{t, made(t, budget), shelf{budget: budget, there: map[api.Key]*held{}}}
}

func (p *pairing) put(x api.Set, rank, now, expiry int) api.Errno {
	p.t.Helper()
	e := p.m.put(x, rank, now, expiry)
	refused(p.t, fmt.Sprintf("P10.1 %.200q", fmt.Sprint(x)), p.s, x, rank, now, expiry, e)
	return e
}

// touch is what the calls with a Key do.
func (p *pairing) touch(what int, k api.Key, now int) {
	p.t.Helper()
	at := api.Key{Name: name.Fold(k.Name), Type: k.Type}
	x := p.m.there[at]
	whether := func(may bool, otherwise api.Errno) api.Errno {
		switch {
		case x == nil:
			return api.ErrNone
		case !may:
			return otherwise
		}
		return api.OK
	}
	switch what % 8 {
	case 0, 1, 2:
		want, wantOK := p.m.get(at, now)
		got, ok := p.s.Get(k, now)
		is(p.t, "P10.2 Get", []any{got, ok}, []any{want, wantOK})
	case 3, 4:
		want := whether(x != nil && x.Pins < 1000, api.ErrArg)
		is(p.t, "P10.2 Pin", p.s.Pin(k), want)
		if want == api.OK {
			x.Pins++
		}
	case 5, 6:
		want := whether(x != nil && x.Pins > 0, api.ErrArg)
		is(p.t, "P10.2 Unpin", p.s.Unpin(k), want)
		if want == api.OK {
			x.Pins--
		}
	case 7:
		want := whether(x != nil && x.Pins == 0, api.ErrPinned)
		is(p.t, "P10.2 Drop", p.s.Drop(k), want)
		if want == api.OK {
			delete(p.m.there, at)
		}
	}
}

func (p *pairing) sweep(now int) {
	p.t.Helper()
	all := p.m.over(now)
	for _, k := range all {
		p.m.evict(k)
	}
	is(p.t, "P10.2 Sweep", p.s.Sweep(now), len(all))
}

func (p *pairing) ask() {
	p.t.Helper()
	is(p.t, "P10.2 Evicted", p.s.Evicted(), p.m.evicted)
	p.m.evicted = nil
}

// alike holds that all that can be told of both is.
func (p *pairing) alike() {
	p.t.Helper()
	used := cost(p.m.sets()...)
	rooms(p.t, "P10.3", p.s, len(p.m.there), used, p.m.budget-used)
	var want, got []store.Item
	for _, k := range p.m.keys(func(*held) bool { return true }, func(x, y *held) int {
		if name.Less(x.Set.Key.Name, y.Set.Key.Name) {
			return -1
		}
		if name.Less(y.Set.Key.Name, x.Set.Key.Name) {
			return 1
		}
		return cmp.Compare(x.Set.Key.Type, y.Set.Key.Type)
	}) {
		want = append(want, p.m.there[k].Item)
		has(p.t, "P10.2", p.s, p.m.there[k].Item)
	}
	for x := range p.s.Items() {
		got = append(got, x)
	}
	is(p.t, "P10.2 Items", got, want)
	if p.t.Failed() {
		p.t.FailNow()
	}
}

// someName is one of few names, long ones among them.
func someName(r *rand.Rand) string {
	l := []string{".", "a.", "A.", "b.", "c.", "B.a.", "www.A.", "www.a.", "x.b.", strings.Repeat("l", 63) + ".a.", strings.Repeat("m", 60) + "." + strings.Repeat("m", 60) + ".b."}
	return n(l[r.Intn(len(l))])
}

// some is a set made by chance, mostly one that may be.
func some(r *rand.Rand) api.Set {
	of := []int{1, 2, 2, 5, 15, txt, txt, 255}[r.Intn(8)]
	x := api.Set{Key: api.Key{Name: someName(r), Type: of}, Zone: someName(r)}
	for range 1 + r.Intn([]int{1, 2, 4, 8}[r.Intn(4)]) {
		d := map[int]string{1: "abcd", 2: someName(r), 5: someName(r), 15: "AB" + someName(r)}[of]
		if of >= txt {
			d = strings.Repeat("x", r.Intn([]int{10, 100, 600}[r.Intn(3)]))
		}
		x.RRs = append(x.RRs, api.RR{Name: name.Fold(x.Key.Name), Type: of, Class: 1, TTL: r.Intn(9), Data: d})
	}
	if r.Intn(4) == 0 {
		x.Kind, x.RRs = 1+r.Intn(2), nil
	}
	switch r.Intn(60) {
	case 0:
		x.Key.Type++
	case 1:
		x.Zone = "a."
	case 2:
		x.RRs = append(x.RRs, slices.Repeat([]api.RR{{Name: x.Key.Name, Type: of, Class: 1, Data: strings.Repeat("y", 900)}}, 5)...)
	}
	return x
}

func TestByChance(t *testing.T) {
	met := map[api.Errno]int{}
	for seed := range 150 {
		r := rand.New(rand.NewSource(int64(seed)))
		p := paired(t, []int{2048, 2048 + r.Intn(2000), 4096, 8192, 2560}[seed%5])
		now := 0
		for step := range 300 {
			now += r.Intn(3)
			switch r.Intn(12) {
			case 0, 1, 2, 3, 4:
				met[p.put(some(r), r.Intn(11)-r.Intn(2), now, now+r.Intn(30))]++
			case 5, 6, 7, 8, 9:
				p.touch(r.Intn(8), some(r).Key, now+r.Intn(3)-1)
			case 10:
				p.sweep(now - r.Intn(4))
			case 11:
				p.ask()
			}
			if step%5 == 0 {
				p.alike()
			}
		}
		p.alike()
		p.ask()
	}
	if met[api.OK] < 8000 || met[api.ErrArg] < 1000 || met[api.ErrBig] < 20 || met[api.ErrFull] < 60 || met[api.ErrPinned] < 500 {
		t.Errorf("by chance: %v", met)
	}
}

// FuzzStore does what bytes say, step by step.
func FuzzStore(f *testing.F) {
	f.Add(2048, []byte("put some sets, and more of them"))
	f.Add(2600, []byte{0, 1, 2, 3, 60, 70, 80, 90, 100, 110, 120, 130, 5, 6, 7, 200, 210, 220, 250, 251, 252, 253, 254, 255})
	f.Fuzz(func(t *testing.T, budget int, steps []byte) {
		if s, e := store.New(budget); (s != nil) != (e == api.OK) || (e == api.OK) != (2048 <= budget && budget <= 1<<20) {
			t.Fatalf("P10.1 New(%d): %v %d", budget, s, e)
		}
		budget = 2048 + budget&2047
		p := paired(t, budget)
		now := 0
		for i, b := range steps[:min(len(steps), 200)] {
			r := rand.New(rand.NewSource(int64(b)*1000 + int64(i)%7))
			now += int(b) % 3
			switch {
			case b < 120:
				p.put(some(r), r.Intn(10), now, now+1+r.Intn(20))
			case b < 240:
				p.touch(r.Intn(8), some(r).Key, now)
			case b < 250:
				p.sweep(now)
			default:
				p.ask()
			}
			p.alike()
		}
		p.ask()
	})
}
