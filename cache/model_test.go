package cache_test

import (
	"fmt"
	"math/rand"
	"strings"
	"testing"

	"freshet/api"
	"freshet/cache"
	"freshet/name"
	"freshet/record"
	"freshet/store"
)

// A ledger is a cache, told once more: a store of its own, of which all is told by its Items.
type ledger struct {
	store          *store.Store
	ttlcap, negcap int
}

// there is the item of a Key, in all that are there.
func (m *ledger) there(k api.Key, now int) (store.Item, bool) {
	for x := range m.store.Items() {
		if name.Same(x.Set.Key.Name, k.Name) && x.Set.Key.Type == k.Type && now < x.Expiry {
			return x, true
		}
	}
	return store.Item{}, false
}

func (m *ledger) put(x api.Set, rank, left, now int) api.Errno {
	if x.Kind == 2 && x.Key.Type != 255 || x.Kind != 2 && x.Key.Type == 255 || left < 1 {
		return api.ErrArg
	}
	most := m.negcap
	if x.Kind == 0 {
		most = m.ttlcap
	}
	if elder, ok := m.there(x.Key, now); ok && rank < elder.Rank {
		return api.ErrNone
	}
	return m.store.Put(x, rank, now, min(now+min(left, most), 1<<40))
}

// found is what is told of an item.
func found(x store.Item, ok bool, now int) (cache.Found, bool) {
	if !ok {
		return cache.Found{}, false
	}
	return cache.Found{Set: x.Set, Left: x.Expiry - now, Rank: x.Rank}, true
}

func (m *ledger) find(k api.Key, now int) (cache.Found, bool) {
	x, ok := m.there(k, now)
	if !ok {
		x, ok = m.there(api.Key{Name: k.Name, Type: 255}, now)
	}
	return found(x, ok, now)
}

// closest is, of all NS sets whose name a name is Under, that with the most labels.
func (m *ledger) closest(of string, now int) (cache.Found, bool) {
	var best store.Item
	one := false
	for x := range m.store.Items() {
		k := x.Set.Key
		if k.Type != api.NS || x.Set.Kind != 0 || now >= x.Expiry || !name.Under(of, k.Name) {
			continue
		}
		if !one || name.Count(k.Name) > name.Count(best.Set.Key.Name) {
			best, one = x, true
		}
	}
	return found(best, one, now)
}

// addrs is a name's addresses: each number that one of them is, by counting up.
func (m *ledger) addrs(of string, now int) []int {
	x, _ := m.there(api.Key{Name: of, Type: api.A}, now)
	l := []int{}
	for addr := range 8 {
		for _, r := range x.Set.RRs {
			if r.Data == string([]byte{0, 0, 0, byte(addr)}) {
				l = append(l, addr)
				break
			}
		}
	}
	return l
}

// A pairing is a cache and its ledger, to which the same is done.
type pairing struct {
	t *testing.T
	c *cache.Cache
	m ledger
}

func paired(t *testing.T, budget, ttlcap, negcap int) *pairing {
	t.Helper()
	s, e := store.New(budget)
	if e != api.OK {
		t.Fatal(e)
	}
	return &pairing{t, made(t, budget, ttlcap, negcap), ledger{s, ttlcap, negcap}}
}

func (p *pairing) put(x api.Set, rank, left, now int) api.Errno {
	p.t.Helper()
	e := p.m.put(x, rank, left, now)
	put(p.t, fmt.Sprintf("P13.1 %.200q", fmt.Sprint(x)), p.c, x, rank, left, now, e)
	return e
}

// hold pins or unpins one in both stores, or drops it.
func (p *pairing) hold(what int, k api.Key) {
	p.t.Helper()
	one, two := p.c.Store(), p.m.store
	switch what % 5 {
	case 0, 1:
		is(p.t, "P13.2 Store: Pin", one.Pin(k), two.Pin(k))
	case 2, 3:
		is(p.t, "P13.2 Store: Unpin", one.Unpin(k), two.Unpin(k))
	case 4:
		is(p.t, "P13.2 Store: Drop", one.Drop(k), two.Drop(k))
	}
}

// ask asks all that may be asked of a Key; whether something was found.
func (p *pairing) ask(k api.Key, now int) bool {
	p.t.Helper()
	want, wantOK := p.m.find(k, now)
	got, ok := p.c.Find(k, now)
	is(p.t, fmt.Sprintf("P13.2 Find(%q, %d, %d)", k.Name, k.Type, now), []any{got, ok}, []any{want, wantOK})
	near, wantNear := p.m.closest(k.Name, now)
	got, ok = p.c.Closest(k.Name, now)
	is(p.t, fmt.Sprintf("P13.2 Closest(%q, %d)", k.Name, now), []any{got, ok}, []any{near, wantNear})
	numbers(p.t, "P13.2", p.c, k.Name, now, p.m.addrs(k.Name, now)...)
	return wantOK
}

func (p *pairing) use(k api.Key, now int) {
	p.t.Helper()
	_, want := p.m.store.Get(k, now)
	is(p.t, "P13.2 Use", p.c.Use(k, now), want)
}

func (p *pairing) tick(now int) {
	p.t.Helper()
	is(p.t, "P13.2 Tick", p.c.Tick(now), p.m.store.Sweep(now))
}

// alike holds that both stores have the same.
func (p *pairing) alike() {
	p.t.Helper()
	var got, want []store.Item
	for x := range p.c.Store().Items() {
		got = append(got, x)
	}
	for x := range p.m.store.Items() {
		want = append(want, x)
	}
	is(p.t, "P13.1 all that is there", got, want)
	is(p.t, "P13.1 who went", p.c.Store().Evicted(), p.m.store.Evicted())
	if p.t.Failed() {
		p.t.FailNow()
	}
}

// someName is one of few names, a long one among them.
func someName(r *rand.Rand) string {
	l := []string{".", "a.", "A.", "b.", "c.", "B.a.", "b.A.", "www.A.", "www.b.a.", "x.b.", strings.Repeat("l", 63) + ".a."}
	return n(l[r.Intn(len(l))])
}

// some is a set made by chance, mostly one that may be.
func some(r *rand.Rand) api.Set {
	typ := []int{api.A, api.A, api.NS, api.NS, api.NS, txt, txt, 255}[r.Intn(8)]
	x := api.Set{Key: api.Key{Name: someName(r), Type: typ}, Zone: someName(r)}
	if typ == 255 {
		x.Kind = 2
	} else if r.Intn(5) == 0 {
		x.Kind = 1
	}
	for range 1 + r.Intn([]int{1, 2, 4, 8}[r.Intn(4)]) {
		if x.Kind != 0 {
			break
		}
		d := strings.Repeat("x", r.Intn([]int{10, 100, 600}[r.Intn(3)]))
		switch typ {
		case api.A:
			d = record.MakeA(x.Key.Name, 0, r.Intn(8)).Data
		case api.NS:
			d = someName(r)
		}
		x.RRs = append(x.RRs, api.RR{Name: name.Fold(x.Key.Name), Type: typ, Class: api.IN, TTL: r.Intn(9), Data: d})
	}
	switch r.Intn(60) {
	case 0:
		x.Kind = r.Intn(4)
	case 1:
		x.Key.Type = []int{255, 0, api.A}[r.Intn(3)]
	case 2:
		x.Zone = "a."
	case 3:
		if x.Key.Type == txt {
			x = tooLong(name.Text(x.Key.Name))
		}
	}
	return x
}

// someKey is a Key made by chance.
func someKey(r *rand.Rand) api.Key {
	k := api.Key{Name: someName(r), Type: []int{api.A, api.NS, txt, 255, api.MX}[r.Intn(5)]}
	if r.Intn(40) == 0 {
		k.Name = k.Name[1:]
	}
	return k
}

func TestByChance(t *testing.T) {
	met := map[api.Errno]int{}
	found := 0
	for seed := range 150 {
		r := rand.New(rand.NewSource(int64(seed)))
		p := paired(t, []int{2048, 2048 + r.Intn(2000), 4096, 8192, 16384}[seed%5], 1+r.Intn(150), 1+r.Intn(90))
		now := []int{0, 1<<40 - 200}[r.Intn(6)/5]
		for step := range 250 {
			now += r.Intn(3)
			switch r.Intn(12) {
			case 0, 1, 2, 3, 4:
				met[p.put(some(r), r.Intn(11)-r.Intn(2), r.Intn(180)-9, now)]++
			case 5, 6, 7:
				if p.ask(someKey(r), now+r.Intn(3)-1) {
					found++
				}
			case 8, 9:
				p.use(someKey(r), now+r.Intn(3)-1)
			case 10:
				p.tick(now - r.Intn(4))
			case 11:
				p.hold(r.Intn(5), someKey(r))
			}
			if step%5 == 0 {
				p.alike()
			}
		}
		p.alike()
	}
	if met[api.OK] < 6000 || met[api.ErrArg] < 1000 || met[api.ErrBig] < 10 || met[api.ErrFull] < 10 || met[api.ErrPinned] < 100 || met[api.ErrNone] < 1000 || found < 2000 {
		t.Errorf("by chance: %v, found %d", met, found)
	}
}

// FuzzCache does what bytes say, step by step.
func FuzzCache(f *testing.F) {
	f.Add(2048, 5, 9, []byte("learn something, and more of it"))
	f.Add(2600, 90, 1, []byte{0, 1, 2, 3, 60, 70, 80, 90, 100, 110, 120, 130, 5, 6, 7, 200, 210, 220, 250, 251, 252, 253, 254, 255})
	f.Fuzz(func(t *testing.T, budget, ttlcap, negcap int, steps []byte) {
		mayBe := 2048 <= budget && budget <= 1<<20 && 1 <= ttlcap && ttlcap <= 1<<31 && 1 <= negcap && negcap <= 1<<31
		if c, e := cache.New(budget, ttlcap, negcap); (c != nil) != mayBe || e != map[bool]api.Errno{true: api.OK, false: api.ErrArg}[mayBe] {
			t.Fatalf("P13.1 New(%d, %d, %d): %v %d", budget, ttlcap, negcap, c, e)
		}
		p := paired(t, 2048+budget&2047, 1+ttlcap&63, 1+negcap&31)
		now := 0
		for i, b := range steps[:min(len(steps), 200)] {
			r := rand.New(rand.NewSource(int64(b)*1000 + int64(i)%7))
			now += int(b) % 3
			switch {
			case b < 120:
				p.put(some(r), r.Intn(10), r.Intn(40), now)
			case b < 200:
				p.ask(someKey(r), now)
			case b < 230:
				p.use(someKey(r), now)
			case b < 245:
				p.tick(now)
			default:
				p.hold(r.Intn(5), someKey(r))
			}
			p.alike()
		}
	})
}
