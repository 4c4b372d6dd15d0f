package intern_test

import (
	"fmt"
	"maps"
	"math/rand"
	"slices"
	"strings"
	"testing"

	"freshet/api"
	"freshet/arena"
	"freshet/intern"
)

// A word is a name that is there, told once more.
type word struct{ id, uses int }

// A pairing is a table and its model, to which the same is done; beside the names there are blocks of others in the arena.
type pairing struct {
	t      *testing.T
	a      *arena.Arena
	x      *intern.Table
	budget int
	words  map[string]word
	others map[int][]byte
}

func paired(t *testing.T, budget int) *pairing {
	a, x := made(t, budget)
	return &pairing{t, a, x, budget, map[string]word{}, map[int][]byte{}}
}

// used is what names and others take.
func (p *pairing) used() int {
	used := 0
	for n := range p.words {
		used += costOf(n)
	}
	for _, b := range p.others {
		used += arena.Cost(len(b))
	}
	return used
}

// ids are the names by their ids.
func (p *pairing) ids() map[int]string {
	ids := map[int]string{}
	for n, w := range p.words {
		ids[w.id] = n
	}
	return ids
}

// least is the least handle that nobody has.
func (p *pairing) least() int {
	ids := p.ids()
	for h := 1; ; h++ {
		if ids[h] == "" && p.others[h] == nil {
			return h
		}
	}
}

func (p *pairing) add(n string) {
	p.t.Helper()
	id, e := p.x.Add(n)
	w, ok := p.words[small(n)]
	if !ok {
		w.id = p.least()
	}
	if !ok && p.used()+costOf(n) > p.budget {
		is(p.t, fmt.Sprintf("P7.1 Add(%q) without room", n), []any{id, e}, []any{0, api.ErrFull})
		return
	}
	w.uses++
	p.words[small(n)] = w
	is(p.t, fmt.Sprintf("P7.1 Add(%q)", n), []any{id, e}, []any{w.id, api.OK})
}

func (p *pairing) drop(id int) {
	p.t.Helper()
	want := api.ErrNone
	if n, ok := p.ids()[id]; ok {
		want = api.OK
		w := p.words[n]
		w.uses--
		p.words[n] = w
		if w.uses == 0 {
			delete(p.words, n)
		}
	}
	is(p.t, fmt.Sprintf("P7.1 Drop(%d)", id), p.x.Drop(id), want)
}

// other makes a block of another's, or frees it.
func (p *pairing) other(b []byte) {
	p.t.Helper()
	h, e := p.a.Alloc(len(b))
	if e == api.OK {
		p.a.Write(h, 0, b)
		p.others[h] = slices.Clone(b)
	}
}

func (p *pairing) free(h int) {
	if p.others[h] != nil {
		is(p.t, "another's block", p.a.Free(h), api.OK)
		delete(p.others, h)
	}
}

// alike holds that all that can be told of both is.
func (p *pairing) alike(all []string) {
	p.t.Helper()
	rooms(p.t, "P7.2", p.a, p.x, len(p.words), p.used())
	for _, n := range all {
		if w, ok := p.words[small(n)]; ok {
			there(p.t, "P7.2", p.a, p.x, n, w.id, w.uses)
		} else {
			noName(p.t, "P7.2", p.x, n)
			is(p.t, "P7.1 Cost", p.x.Cost(n), costOf(n))
		}
	}
	ids, handles := p.ids(), []int{}
	for h := range p.a.Handles() {
		handles = append(handles, h)
	}
	want := []int{}
	want = slices.AppendSeq(want, maps.Keys(ids))
	want = slices.AppendSeq(want, maps.Keys(p.others))
	slices.Sort(want)
	is(p.t, "P7.2 what stands in the arena", handles, want)
	for h, b := range p.others {
		got, _ := p.a.Read(h, 0, len(b))
		is(p.t, "P7.2 another's block", string(got), string(b))
		noID(p.t, "P7.2 another's block", p.x, h)
	}
	if p.t.Failed() {
		p.t.FailNow()
	}
}

// some are so many names, of few letters, great and small.
func some(r *rand.Rand, count int) []string {
	l := []string{}
	for range count {
		n := []string{}
		for range r.Intn(4) {
			at := r.Intn(8)
			n = append(n, strings.Repeat("abABz@[\xff"[at:at+1], 1+r.Intn([]int{2, 5, 63}[r.Intn(3)])))
		}
		l = append(l, wire(strings.Join(n, " ")))
	}
	return l
}

func TestByChance(t *testing.T) {
	for seed := range 60 {
		r := rand.New(rand.NewSource(int64(seed)))
		p := paired(t, []int{1024, 1024 + r.Intn(32), 1024 + r.Intn(4000), 8192}[seed%4])
		all := some(r, []int{10, 40, 150}[seed%3])
		for step := range 500 {
			n := all[r.Intn(len(all))]
			switch r.Intn(14) {
			case 0, 1, 2, 3, 4, 5:
				p.add(n)
			case 6, 7:
				p.drop(p.words[small(n)].id)
			case 8, 9, 10:
				p.drop(r.Intn(len(all)))
			case 11:
				b, _ := p.a.Read(1+r.Intn(10), 0, r.Intn(20)) // what looks like a name's, or nearly so
				p.other(append(b, n[r.Intn(len(n)):]...))
			case 12:
				p.free(r.Intn(40))
			case 13:
				p.a.Compact()
			}
			rooms(t, "P7.2", p.a, p.x, len(p.words), p.used())
			if step%8 == 0 {
				p.alike(all)
			}
		}
		for _, id := range slices.Sorted(maps.Keys(p.ids())) {
			for p.ids()[id] != "" {
				p.drop(id)
			}
		}
		p.alike(all)
	}
}

// As many as an arena has room for: each is found, and each goes, in whatever order.
func TestMany(t *testing.T) {
	const most = 1 << 15
	a, x := made(t, 1<<20)
	n := func(i int) string { return wire(fmt.Sprintf("%x Net", i)) }
	for i := 1; i <= most; i++ {
		adds(t, x, n(i), i)
	}
	rooms(t, "P7.2 as many as there may be", a, x, most, 1<<20)
	refused(t, "P7.1 one more", x, n(0), api.ErrFull)
	tells := func(what string, i int) {
		t.Helper()
		id, _ := x.Find(n(i))
		if got, _ := x.Name(i); id != i || got != small(n(i)) || x.Uses(i) != 1 {
			t.Fatalf("%s: Find(%q): got %d; Name: %q; Uses: %d", what, n(i), id, got, x.Uses(i))
		}
	}
	for i := 1; i <= most; i++ {
		tells("P7.2 as many as there may be", i)
	}
	order := rand.New(rand.NewSource(9)).Perm(most)
	for at, i := range order {
		drops(t, x, i+1)
		if at%64 == 0 {
			noName(t, "P7.1 gone", x, n(i+1))
			noID(t, "P7.1 gone", x, i+1)
			for _, left := range order[at+1 : min(at+100, most)] {
				tells("P7.1 what is left", left+1)
			}
		}
	}
	rooms(t, "P7.1 all gone", a, x, 0, 0)
}

// FuzzTable does what bytes say, to a table and to its model.
func FuzzTable(f *testing.F) {
	f.Add(uint16(0), []byte("\x00\x01\x00\x02\x01\x01\x03\x02\x02\x01\x04\x03"))
	f.Fuzz(func(t *testing.T, more uint16, todo []byte) {
		p := paired(t, 1024+int(more)%4000)
		all := some(rand.New(rand.NewSource(int64(more))), 50)
		for i := 0; i+1 < len(todo) && i < 400; i += 2 {
			arg := int(todo[i+1])
			switch todo[i] % 6 {
			case 0, 1:
				p.add(all[arg%len(all)])
			case 2, 3:
				p.drop(arg - 1)
			case 4:
				p.other(todo[:min(arg, i)])
			case 5:
				p.free(arg)
			}
			rooms(t, "P7.2", p.a, p.x, len(p.words), p.used())
			if i%32 == 0 {
				p.alike(all)
			}
		}
		p.alike(all)
	})
}
