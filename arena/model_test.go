package arena_test

import (
	"fmt"
	"maps"
	"math/rand"
	"slices"
	"testing"

	"freshet/api"
	"freshet/arena"
)

// A model is an arena told once more: a list of bytes for each block, and nowhere that they lie.
type model struct {
	budget int
	blocks map[int][]byte
}

func (m *model) used() int {
	used := 0
	for _, b := range m.blocks {
		used += costOf(len(b))
	}
	return used
}

func (m *model) alloc(n int) (int, api.Errno) {
	if costOf(n) == 0 {
		return 0, api.ErrBig
	}
	if m.used()+costOf(n) > m.budget {
		return 0, api.ErrFull
	}
	h := 1
	for m.blocks[h] != nil {
		h++
	}
	m.blocks[h] = make([]byte, n)
	return h, api.OK
}

func (m *model) free(h int) api.Errno {
	if m.blocks[h] == nil {
		return api.ErrNone
	}
	delete(m.blocks, h)
	return api.OK
}

func (m *model) part(h, at, n int) ([]byte, api.Errno) {
	b := m.blocks[h]
	if b == nil {
		return nil, api.ErrNone
	}
	if at < 0 || n < 0 || at+n > len(b) {
		return nil, api.ErrArg
	}
	return b[at : at+n], api.OK
}

// A pairing is an arena and its model, to which the same is done.
type pairing struct {
	t *testing.T
	a *arena.Arena
	m *model
}

func paired(t *testing.T, budget int) *pairing {
	return &pairing{t, made(t, budget), &model{budget, map[int][]byte{}}}
}

func (p *pairing) alloc(n int) {
	p.t.Helper()
	h, e := p.a.Alloc(n)
	want, wantE := p.m.alloc(n)
	is(p.t, fmt.Sprintf("P6.1 Alloc(%d)", n), []any{h, e}, []any{want, wantE})
}

func (p *pairing) free(h int) {
	p.t.Helper()
	is(p.t, fmt.Sprintf("P6.1 Free(%d)", h), p.a.Free(h), p.m.free(h))
}

func (p *pairing) write(h, at int, b []byte) {
	p.t.Helper()
	to, want := p.m.part(h, at, len(b))
	copy(to, b)
	is(p.t, fmt.Sprintf("P6.2 Write(%d, %d, %v)", h, at, b), p.a.Write(h, at, b), want)
}

func (p *pairing) read(h, at, n int) {
	p.t.Helper()
	b, e := p.a.Read(h, at, n)
	want, wantE := p.m.part(h, at, n)
	is(p.t, fmt.Sprintf("P6.2 Read(%d, %d, %d)", h, at, n), []any{string(b), e}, []any{string(want), wantE})
}

func (p *pairing) compact() {
	p.t.Helper()
	is(p.t, "P6.2 Compact", p.a.Compact(), p.m.budget-p.m.used())
}

// alike holds that all that can be told of both is.
func (p *pairing) alike() {
	p.t.Helper()
	used := p.m.used()
	rooms(p.t, "P6.3", p.a, used, p.m.budget-used)
	want := []pair{}
	for _, h := range slices.Sorted(maps.Keys(p.m.blocks)) {
		want = append(want, pair{h, len(p.m.blocks[h])})
		holds(p.t, "P6.2", p.a, h, p.m.blocks[h])
	}
	if got := walked(p.a.Handles(), -1); !slices.Equal(got, want) {
		p.t.Fatalf("P6.2 Handles:\n got %v\nwant %v", got, want)
	}
	if p.t.Failed() {
		p.t.FailNow()
	}
}

// step does one thing more, as a number says.
func (p *pairing) step(r *rand.Rand, most int) {
	p.t.Helper()
	h := r.Intn(len(p.m.blocks)+3) - 1
	switch r.Intn(12) {
	case 0, 1, 2, 3:
		p.alloc(r.Intn(r.Intn(most) + 1))
		fallthrough // what is written here and there tells if it is moved wrongly
	case 4, 5:
		n := len(p.m.blocks[h])
		p.write(h, 0, filling(n, r.Intn(200)))
	case 6:
		p.write(h, r.Intn(20)-1, filling(r.Intn(20), r.Intn(200)))
	case 7:
		p.read(h, r.Intn(20)-1, r.Intn(20)-1)
	case 8:
		if r.Intn(4) == 0 {
			p.compact()
		}
	default:
		p.free(h)
	}
}

func TestByChance(t *testing.T) {
	for seed := range 120 {
		r := rand.New(rand.NewSource(int64(seed)))
		p := paired(t, []int{1024, 1024 + r.Intn(32), 1024 + r.Intn(10000), 4096}[seed%4])
		most := []int{9, 30, 130, 1000, 4200}[seed%5]
		for range 600 {
			p.step(r, most)
			p.alike()
		}
		for _, h := range slices.Sorted(maps.Keys(p.m.blocks)) {
			p.free(h)
		}
		p.alike()
	}
}

// Near the brim: who wants room gets it by others' going, as few as it needs.
func TestByChanceBrimful(t *testing.T) {
	for seed := range 60 {
		r := rand.New(rand.NewSource(int64(1000 + seed)))
		p := paired(t, 1024+r.Intn(3000))
		for range 400 {
			n := r.Intn([]int{25, 130, 600}[r.Intn(3)])
			for p.m.used()+costOf(n) > p.m.budget {
				l := slices.Sorted(maps.Keys(p.m.blocks))
				p.free(l[r.Intn(len(l))])
			}
			p.alloc(n)
			for h := range p.m.blocks {
				if len(p.m.blocks[h]) == n {
					p.write(h, 0, filling(n, r.Intn(200)))
				}
			}
			p.alike()
		}
	}
}

// FuzzArena does what bytes say, to an arena and to its model.
func FuzzArena(f *testing.F) {
	f.Add(uint16(0), []byte("\x00\x08\x00\x64\x01\x01\x00\x10\x04\x00"))
	f.Fuzz(func(t *testing.T, more uint16, todo []byte) {
		p := paired(t, 1024+int(more)%9000)
		for i := 0; i+1 < len(todo) && i < 400; i += 2 {
			arg := int(todo[i+1])
			switch todo[i] % 8 {
			case 0, 1:
				p.alloc(arg)
			case 2:
				p.alloc(arg*17 - 8)
			case 3, 4:
				p.free(arg)
			case 5:
				p.write(arg, i%9, filling(i%40, i))
			case 6:
				p.read(arg, i%9, i%40)
			case 7:
				p.compact()
			}
			p.alike()
		}
	})
}
