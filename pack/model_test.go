package pack_test

import (
	"fmt"
	"maps"
	"math/rand"
	"slices"
	"strings"
	"testing"

	"freshet/api"
	"freshet/arena"
	"freshet/intern"
	"freshet/pack"
)

// A word is a name that is there, told once more.
type word struct{ id, uses int }

// A pairing is an arena with a table, and a model of both, to which the same is done.
type pairing struct {
	t      *testing.T
	a      *arena.Arena
	x      *intern.Table
	budget int
	words  map[string]word
	sets   map[int]api.Set
	others map[int]int // blocks of others: their sizes
}

func paired(t *testing.T, budget int) *pairing {
	a, x := made(t, budget)
	return &pairing{t, a, x, budget, map[string]word{}, map[int]api.Set{}, map[int]int{}}
}

// used is what all blocks take.
func (p *pairing) used() int {
	used := 0
	for n := range p.words {
		used += costOf(len(n) + 8)
	}
	for _, s := range p.sets {
		size, _, _ := told(s)
		used += costOf(size)
	}
	for _, size := range p.others {
		used += costOf(size)
	}
	return used
}

// least is the least handle that nobody has.
func (p *pairing) least() int {
	had := map[int]bool{}
	for _, w := range p.words {
		had[w.id] = true
	}
	for h := 1; ; h++ {
		_, set := p.sets[h]
		_, other := p.others[h]
		if !had[h] && !set && !other {
			return h
		}
	}
}

// put puts a set: what is told of that.
func (p *pairing) put(s api.Set) api.Errno {
	p.t.Helper()
	_, names, want := told(s)
	words := maps.Clone(p.words)
	cost := p.used()
	for _, n := range names {
		w, ok := p.words[small(n)]
		if !ok {
			w.id = p.least()
		}
		w.uses++
		p.words[small(n)] = w
	}
	h := p.least()
	if want == api.OK {
		p.sets[h] = s
		if p.used() > p.budget {
			want = api.ErrFull
		}
	}
	cost = p.used() - cost
	if want == api.ErrArg || want == api.ErrBig {
		cost = 0
	}
	is(p.t, "P8.1 Cost", pack.Cost(p.x, s), cost)
	if want != api.OK {
		delete(p.sets, h)
		p.words = words
		refused(p.t, fmt.Sprintf("P8.1 %.200q", fmt.Sprint(s)), p.a, p.x, s, want)
		return want
	}
	puts(p.t, "P8.1", p.a, p.x, s, h)
	has(p.t, "P8.2", p.a, p.x, h, s)
	return want
}

// drop drops a handle, whatever it is.
func (p *pairing) drop(h int) {
	p.t.Helper()
	s, ok := p.sets[h]
	if !ok {
		hasNone(p.t, "P8.1", p.a, p.x, h)
		return
	}
	_, names, _ := told(s)
	for _, n := range names {
		n = small(n)
		w := p.words[n]
		w.uses--
		p.words[n] = w
		if w.uses == 0 {
			delete(p.words, n)
		}
	}
	delete(p.sets, h)
	drops(p.t, "P8.1", p.a, p.x, h)
}

// other makes a block of another's, with the bytes of the block h.
func (p *pairing) other(h int) {
	size, _ := p.a.Size(h)
	b, _ := p.a.Read(h, 0, size)
	if o, e := p.a.Alloc(size); e == api.OK {
		p.a.Write(o, 0, b)
		p.others[o] = size
	}
}

// free frees another's block.
func (p *pairing) free(h int) {
	if _, ok := p.others[h]; ok {
		p.a.Free(h)
		delete(p.others, h)
	}
}

// alike holds that all that can be told of both is.
func (p *pairing) alike() {
	p.t.Helper()
	rooms(p.t, "P8.1", p.a, p.x, len(p.words), p.used())
	for n, w := range p.words {
		id, _ := p.x.Find(n)
		is(p.t, fmt.Sprintf("P8.1 %q", n), []int{id, p.x.Uses(id)}, []int{w.id, w.uses})
	}
	for h := range p.a.Handles() {
		if s, ok := p.sets[h]; ok {
			has(p.t, "P8.2", p.a, p.x, h, s)
		} else {
			hasNone(p.t, "P8.1", p.a, p.x, h)
		}
	}
	if p.t.Failed() {
		p.t.FailNow()
	}
}

// someName is a name made by chance.
func someName(r *rand.Rand) string {
	n := "\x00"
	for range r.Intn(3) {
		l := strings.Repeat(string("abABz\x00"[r.Intn(6)]), 1+r.Intn([]int{1, 1, 1, 40}[r.Intn(4)]))
		n = string([]byte{byte(len(l))}) + l + n
	}
	return n
}

// someData is data made by chance, mostly what may be, of that type.
func someData(r *rand.Rand, kind int) string {
	bytes := func(n int) string { return strings.Repeat(string("aA\x00\x01"[r.Intn(4)]), n) }
	if r.Intn(60) == 0 {
		return bytes(r.Intn(8))
	}
	switch kind {
	case api.A:
		return bytes(4)
	case api.AAAA:
		return bytes(16)
	case api.NS, api.CNAME, api.PTR:
		return someName(r)
	case api.MX:
		return bytes(2) + someName(r)
	case api.SRV:
		return bytes(6) + someName(r)
	case api.SOA:
		return someName(r) + someName(r) + bytes(20)
	case api.TXT:
		return "\x03" + bytes(3) + "\x00"
	}
	return bytes(r.Intn([]int{5, 5, 5, 1002}[r.Intn(4)]))
}

// some is a set made by chance, mostly one that may be.
func some(r *rand.Rand) api.Set {
	kind := []int{1, 2, 5, 6, 12, 15, 16, 28, 33, 99, 255, 65535}[r.Intn(12)]
	n := someName(r)
	s := none(someName(r), n, r.Intn(3), kind)
	if s.Kind == 0 {
		s.RRs = set(s.Zone, n, kind, someData(r, kind)).RRs
		for range r.Intn([]int{1, 2, 6, 33}[r.Intn(4)]) {
			s.RRs = append(s.RRs, api.RR{Name: strings.ToUpper(n), Type: kind, Class: 1, TTL: r.Intn(9), Data: someData(r, kind)})
		}
	}
	switch r.Intn(40) {
	case 0:
		s.Key.Type = []int{0, -1, 65536, 1, 99}[r.Intn(5)]
	case 1:
		s.Kind = r.Intn(5) - 1
	case 2:
		s.Zone = wrong()[r.Intn(len(wrong()))]
	case 3:
		s.Key.Name = someName(r)
	}
	return s
}

// oneOf is a handle that a map has; 0, if it has none.
func oneOf[V any](r *rand.Rand, m map[int]V) int {
	if len(m) == 0 {
		return 0
	}
	return slices.Sorted(maps.Keys(m))[r.Intn(len(m))]
}

func TestByChance(t *testing.T) {
	met := map[api.Errno]int{}
	for seed := range 80 {
		r := rand.New(rand.NewSource(int64(seed)))
		p := paired(t, []int{1024, 1024 + r.Intn(5000), 8192, 16384}[seed%4])
		for step := range 150 {
			switch r.Intn(10) {
			case 0, 1, 2, 3, 4:
				met[p.put(some(r))]++
			case 5, 6:
				p.drop(oneOf(r, p.sets))
			case 7:
				p.drop(r.Intn(60))
			case 8:
				p.other(1 + r.Intn(20))
			case 9:
				p.free(oneOf(r, p.others))
			}
			if r.Intn(20) == 0 {
				p.a.Compact()
			}
			if step%10 == 0 {
				p.alike()
			}
		}
		p.alike()
		for _, h := range slices.Sorted(maps.Keys(p.sets)) {
			p.drop(h)
		}
		p.alike()
		is(t, "P8.1 all gone", p.x.Count(), 0)
	}
	if met[api.OK] < 1000 || met[api.ErrArg] < 300 || met[api.ErrBig] < 5 || met[api.ErrFull] < 300 {
		t.Errorf("by chance: %v", met)
	}
}

// FuzzPack puts a set of whatever bytes, and overwrites its block.
func FuzzPack(f *testing.F) {
	f.Add("\x01a\x00", "\x00", 2, 0, "\x01B\x00", "\x01c\x00", 3, []byte{0, 1})
	f.Add("\x01a\x00", "\x00", 6, 0, "\x01B\x00\x00abcdefghijklmnopqrst", "", 17, []byte{9})
	f.Add("\x01a\x00", "\x00", 255, 2, "", "", 0, []byte{})
	f.Fuzz(func(t *testing.T, n, zone string, kind, of int, one, two string, at int, over []byte) {
		s := set(zone, n, kind, one, two)
		if s.Kind = of; of != 0 {
			s.RRs = nil
		}
		p := paired(t, 8192)
		p.put(s)
		p.alike()
		h := oneOf(rand.New(rand.NewSource(0)), p.sets)
		if p.a.Write(h, at, over) == api.OK {
			got, e := pack.Get(p.a, p.x, h)
			if size, _, bad := told(got); e == api.OK && bad != api.OK {
				t.Errorf("P8.1 overwritten: %d, %#v", size, got)
			}
			is(t, "P8.1 overwritten", pack.Drop(p.a, p.x, h), e)
		}
	})
}
