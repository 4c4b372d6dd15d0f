package pack_test

import (
	"fmt"
	"math"
	"slices"
	"strings"
	"testing"

	"freshet/api"
	"freshet/arena"
	"freshet/intern"
	"freshet/pack"
)

// sizes holds what Size tells.
func sizes(t *testing.T, what string, s api.Set, want int, wantE api.Errno) {
	t.Helper()
	size, e := pack.Size(s)
	is(t, what+": Size", []any{size, e}, []any{want, wantE})
}

func TestSize(t *testing.T) {
	sizes(t, "P8.1 one A record", set("\x00", wire("a"), api.A, "1234"), 16+6, api.OK)
	sizes(t, "P8.1 two", set("\x00", wire("a"), api.A, "1234", "1234"), 16+6+6, api.OK)
	sizes(t, "P8.1 names, however long", set(longest("a"), longest("b"), api.NS, longest("c"), "\x00"), 16+6+6, api.OK)
	sizes(t, "P8.1 SOA", set("\x00", wire("a"), api.SOA, longest("c")+wire("d")+strings.Repeat("\x00", 20)), 16+2+4+4+20, api.OK)
	sizes(t, "P8.1 MX", set("\x00", wire("a"), api.MX, "ab"+wire("mx")), 16+2+2+4, api.OK)
	sizes(t, "P8.1 SRV", set("\x00", wire("a"), api.SRV, "abcdef"+wire("srv")), 16+2+6+4, api.OK)
	sizes(t, "P8.1 TXT has none", set("\x00", wire("a"), api.TXT, "\x02ab\x00"), 16+2+4, api.OK)
	sizes(t, "P8.1 nothing in it", set("\x00", wire("a"), 99, "", ""), 16+2+2, api.OK)
	sizes(t, "P8.1 no such type", none("\x00", wire("a"), 1, api.A), 16, api.OK)
	sizes(t, "P8.1 no such name", none("\x00", wire("a"), 2, 255), 16, api.OK)
	for i, s := range several() {
		size, _, _ := told(s)
		sizes(t, fmt.Sprintf("P8.1 set %d", i), s, size, api.OK)
	}
	// TTLs are not asked, and the Zone need have nothing to do with the name.
	s := set(wire("other"), wire("a"), api.A, "1234", "5678")
	s.RRs[0].TTL, s.RRs[1].TTL = math.MaxInt, -1
	sizes(t, "P8.1 TTLs", s, 28, api.OK)
	s.RRs[1].Name = wire("A")
	sizes(t, "P8.1 a name that is the Same", s, 28, api.OK)
	is(t, "P8.1 what no record has is not asked", s.RRs[1].TTL, -1)
}

func TestSizeBig(t *testing.T) {
	most := strings.Repeat("x", 1000)
	for last := range 200 {
		s := set("\x00", wire("a"), 99, most, most, most, most, most[:last])
		if size := 16 + 4*1002 + 2 + last; size <= 4096 {
			sizes(t, fmt.Sprintf("P8.1 %d bytes", size), s, size, api.OK)
		} else {
			sizes(t, fmt.Sprintf("P8.1 %d bytes", size), s, 0, api.ErrBig)
		}
	}
	big := set("\x00", wire("a"), 99, slices.Repeat([]string{most}, 32)...)
	sizes(t, "P8.1 as big as there is", big, 0, api.ErrBig)
	// What may not be is told first.
	big.RRs[31].Class = 3
	sizes(t, "P8.1 both", big, 0, api.ErrArg)
	a, x := made(t, 1<<14)
	refused(t, "P8.1 both", a, x, big, api.ErrArg)
	big.RRs[31].Class = 1
	refused(t, "P8.1 too big", a, x, big, api.ErrBig)
	is(t, "P8.1 Cost of what is too big", pack.Cost(x, big), 0)
	rooms(t, "P8.1 behind errors", a, x, 0, 0)
	// The biggest one fits.
	s := set("\x00", wire("a"), 99, most, most, most, most, most[:70])
	puts(t, "P8.1 the biggest one", a, x, s, 3)
	has(t, "P8.2 the biggest one", a, x, 3, s)
	rooms(t, "P8.1 the biggest one", a, x, 2, 8192+64)
}

// ways are ways to spoil a set of two A records.
func ways() map[string]func(s *api.Set) {
	l := map[string]func(s *api.Set){
		"the other Name":    func(s *api.Set) { s.Key.Name = wire("b") },
		"no records":        func(s *api.Set) { s.RRs = nil },
		"an empty list":     func(s *api.Set) { s.RRs = s.RRs[:0] },
		"of a Kind with":    func(s *api.Set) { s.Kind = 1 },
		"of one more with":  func(s *api.Set) { s.Kind = 2 },
		"another RR's Name": func(s *api.Set) { s.RRs[1].Name = wire("a a") },
		"another RR's Type": func(s *api.Set) { s.RRs[1].Type = api.NS },
		"no RR's Data":      func(s *api.Set) { s.RRs[1].Data = "" },
		"more Data":         func(s *api.Set) { s.RRs[0].Data = "12345" },
		"a zero RR":         func(s *api.Set) { s.RRs[1] = api.RR{} },
		"33 of them":        func(s *api.Set) { s.RRs = slices.Repeat(s.RRs[:1], 33) },
		"many of them":      func(s *api.Set) { s.RRs = slices.Repeat(s.RRs[:1], 5000) },
		"another Key's": func(s *api.Set) {
			s.Key.Type = 99
		},
		"another type's Data": func(s *api.Set) {
			s.Key.Type, s.RRs[0].Type, s.RRs[1].Type = api.AAAA, api.AAAA, api.AAAA
		},
		"too much Data": func(s *api.Set) {
			*s = set("\x00", wire("a"), 99, strings.Repeat("x", 1001))
		},
	}
	for _, n := range wrong() {
		l[fmt.Sprintf("a Name that is none: %.40q", n)] = func(s *api.Set) { s.Key.Name = n }
		l[fmt.Sprintf("names that are none: %.40q", n)] = func(s *api.Set) { s.Key.Name, s.RRs[0].Name, s.RRs[1].Name = n, n, n }
		l[fmt.Sprintf("a Zone that is none: %.40q", n)] = func(s *api.Set) { s.Zone = n }
		l[fmt.Sprintf("no such type, of none: %.40q", n)] = func(s *api.Set) { *s = none("\x00", n, 1, 1) }
		l[fmt.Sprintf("no such name, of none: %.40q", n)] = func(s *api.Set) { *s = none(n, "\x00", 2, 255) }
		l[fmt.Sprintf("Data that is none: %.40q", n)] = func(s *api.Set) { *s = set("\x00", wire("a"), api.NS, "\x00", n) }
		l[fmt.Sprintf("an RR's Name that is none: %.40q", n)] = func(s *api.Set) { s.RRs[0].Name = n }
	}
	for _, v := range []int{0, -1, 65536, 65537, 1 << 32, 1<<32 + 1, math.MaxInt, math.MinInt} {
		l[fmt.Sprintf("Type %d", v)] = func(s *api.Set) { s.Key.Type, s.RRs[0].Type, s.RRs[1].Type = v, v, v }
		l[fmt.Sprintf("Type %d of Kind 2", v)] = func(s *api.Set) { *s = none("\x00", "\x00", 2, v) }
	}
	for _, v := range []int{3, 4, -1, 255, 256, 1 << 32, 1<<32 + 1, math.MaxInt, math.MinInt} {
		l[fmt.Sprintf("Kind %d", v)] = func(s *api.Set) { s.Kind = v }
		l[fmt.Sprintf("Kind %d without", v)] = func(s *api.Set) { *s = none("\x00", "\x00", v, 1) }
	}
	for _, v := range []int{0, 2, 3, 255, -1, 1<<32 + 1} {
		l[fmt.Sprintf("Class %d", v)] = func(s *api.Set) { s.RRs[1].Class = v }
	}
	return l
}

func TestMayNotBe(t *testing.T) {
	a, x := made(t, 1024)
	full, y := made(t, 1024)
	full.Alloc(1016)
	sizes(t, "P8.1 nothing", api.Set{}, 0, api.ErrArg)
	for what, spoil := range ways() {
		s := set("\x00", wire("a"), api.A, "1234", "5678")
		spoil(&s)
		what = "P8.1 " + what
		sizes(t, what, s, 0, api.ErrArg)
		refused(t, what, a, x, s, api.ErrArg)
		refused(t, what+", and full", full, y, s, api.ErrArg)
		refused(t, what+", and nil", nil, nil, s, api.ErrArg)
		is(t, what+": Cost", []int{pack.Cost(x, s), pack.Cost(nil, s)}, []int{0, 0})
		rooms(t, what, a, x, 0, 0)
	}
	s := set("\x00", wire("a"), api.A, slices.Repeat([]string{"1234"}, 32)...)
	sizes(t, "P8.1 as many as there may be", s, 16+32*6, api.OK)
	puts(t, "P8.1 as many as there may be", a, x, s, 3)
	has(t, "P8.2 as many as there may be", a, x, 3, s)
}

func TestPut(t *testing.T) {
	a, x := made(t, 4096)
	names := []string{wire("www a"), wire("a"), wire("ns a"), "\x00", wire("admin"), wire("b")}
	s := set(wire("A"), wire("Www A"), api.SOA, wire("Ns a")+"\x00"+strings.Repeat("N", 20), wire("admin")+wire("A")+strings.Repeat("O", 20))
	is(t, "P8.1 Cost", pack.Cost(x, s), 5*32+128)
	// Names first, in order, and then the block.
	puts(t, "P8.1", a, x, s, 6)
	uses(t, "P8.1", x, names, 1, 2, 1, 1, 1, 0)
	rooms(t, "P8.1", a, x, 5, 5*32+128)
	has(t, "P8.2", a, x, 6, s)
	// Again: one use more each time, and a block of its own.
	is(t, "P8.1 Cost", pack.Cost(x, s), 128)
	puts(t, "P8.1 again", a, x, s, 7)
	uses(t, "P8.1 again", x, names, 2, 4, 2, 2, 2, 0)
	rooms(t, "P8.1 again", a, x, 5, 5*32+2*128)
	// The Key's name and Zone's are each a use, even if they are one name; so is each record's.
	s = set(wire("B"), wire("b"), api.NS, wire("B"), wire("b"), wire("ns A"))
	is(t, "P8.1 Cost", pack.Cost(x, s), 32+64)
	puts(t, "P8.1 one name", a, x, s, 9)
	is(t, "P8.1 one name", []int{x.Uses(8), x.Uses(3)}, []int{4, 3})
	has(t, "P8.2 one name", a, x, 9, s)
	// No records: no names but two.
	s = none("\x00", wire("no"), 2, 255)
	is(t, "P8.1 Cost", pack.Cost(x, s), 32+32)
	puts(t, "P8.1 no records", a, x, s, 11)
	is(t, "P8.1 no records", []int{x.Uses(10), x.Uses(4)}, []int{1, 3})
	has(t, "P8.2 no records", a, x, 11, s)
	for _, h := range []int{6, 7, 9, 11} {
		drops(t, "P8.1", a, x, h)
	}
	rooms(t, "P8.1 all gone", a, x, 0, 0)
}

// Each set that may be, alone and among all.
func TestGet(t *testing.T) {
	for i, s := range several() {
		what := fmt.Sprintf("P8.2 set %d", i)
		a, x := made(t, 8192)
		cost := pack.Cost(x, s)
		h, e := pack.Put(a, x, s)
		is(t, what+": Put", []any{h, e}, []any{x.Count() + 1, api.OK})
		is(t, what+": Cost is Used", cost, a.Used())
		has(t, what, a, x, h, s)
		// What was got may be put: it is the same then.
		got, _ := pack.Get(a, x, h)
		puts(t, what+", once more", a, x, got, h+1)
		has(t, what+", once more", a, x, h+1, s)
		drops(t, what, a, x, h)
		has(t, what+", once more", a, x, h+1, s)
		drops(t, what, a, x, h+1)
		rooms(t, what+", gone", a, x, 0, 0)
	}
	a, x := made(t, 1<<15)
	handles := []int{}
	for _, s := range several() {
		h, _ := pack.Put(a, x, s)
		handles = append(handles, h)
	}
	for i, s := range several() {
		has(t, "P8.2 among all", a, x, handles[i], s)
	}
	a.Compact()
	for i, s := range several() {
		has(t, "P8.2 moved", a, x, handles[i], s)
		drops(t, "P8.2 moved", a, x, handles[i])
	}
	rooms(t, "P8.2 all gone", a, x, 0, 0)
}

// Each byte of data stands as it was, but letters of names.
func TestGetBytes(t *testing.T) {
	a, x := made(t, 4096)
	all := make([]byte, 256)
	for i := range all {
		all[i] = byte(i)
	}
	s := set("\x00", wire("a"), 99, string(all))
	puts(t, "P8.2", a, x, s, 3)
	has(t, "P8.2 each byte", a, x, 3, s)
	drops(t, "P8.2", a, x, 3)
	for i := range 256 {
		n := string([]byte{2, byte(i), 'x', 0})
		s = set(n, n, api.MX, string([]byte{byte(i), 'X'})+n)
		puts(t, "P8.2", a, x, s, 2)
		has(t, fmt.Sprintf("P8.2 byte %d", i), a, x, 2, s)
		drops(t, "P8.2", a, x, 2)
	}
}

// However much room is left: all of it, or nothing.
func TestPutFull(t *testing.T) {
	s := set(wire("zone"), wire("www zone"), api.NS, wire("ns1 zone"), wire("ns2 zone"), wire("zone"))
	names := []string{s.Key.Name, s.Zone, s.RRs[0].Data, s.RRs[1].Data}
	for ahead := range 5 { // how many of its names are there already
		for left := 0; left <= 4*32+64+16; left += 16 {
			a, x := made(t, 1024)
			for _, n := range names[:ahead] {
				x.Add(n)
			}
			cost := pack.Cost(x, s)
			is(t, "P8.1 Cost", cost, (4-ahead)*32+64)
			for a.Left() > left {
				a.Alloc(8)
			}
			what := fmt.Sprintf("P8.1 %d names are there, %d bytes are left", ahead, left)
			is(t, what+": Cost", pack.Cost(x, s), cost)
			if cost <= left {
				if _, e := pack.Put(a, x, s); e != api.OK {
					t.Errorf("%s: got %d", what, e)
				}
				is(t, what, a.Left(), left-cost)
				continue
			}
			before := blocks(a)
			for range 2 {
				refused(t, what, a, x, s, api.ErrFull)
				rooms(t, what, a, x, ahead, 1024-left)
				is(t, what+": blocks", blocks(a), before)
				for i, n := range names {
					id, ok := x.Find(n)
					is(t, what+": a name", []any{ok, x.Uses(id)}, []any{i < ahead, min(1, max(0, ahead-i))})
				}
			}
		}
	}
}

// blocks is what stands in an arena.
func blocks(a *arena.Arena) []string {
	l := []string{}
	for h, n := range a.Handles() {
		b, _ := a.Read(h, 0, n)
		l = append(l, fmt.Sprintf("%d %q", h, b))
	}
	return l
}

func TestNoneOfPuts(t *testing.T) {
	a, x := made(t, 4096)
	hasNone(t, "P8.1 nothing is there", a, x, 1)
	s := set(wire("a"), wire("www a"), api.MX, "ab"+wire("mx a"), "cd"+wire("a"))
	puts(t, "P8.1", a, x, s, 4)
	for _, h := range append(far(), 1, 2, 3, 5, 64) {
		hasNone(t, "P8.1 none of Put's", a, x, h)
	}
	// Blocks of others, whatever stands in them.
	b, _ := a.Read(4, 0, 28)
	zero := make([]byte, 40)
	for size := range 40 {
		for what, with := range map[string][]byte{"nothing": zero[:size], "a set's bytes": append(slices.Clone(b), zero...)[:size], "a number": []byte(strings.Repeat("\x01", size))} {
			h, _ := a.Alloc(size)
			a.Write(h, 0, with)
			hasNone(t, fmt.Sprintf("P8.1 another's block of %d bytes with %s", size, what), a, x, h)
			is(t, "P8.1 another's block", a.Free(h), api.OK)
		}
	}
	uses(t, "P8.1 behind ErrNone", x, []string{wire("www a"), wire("a"), wire("mx a")}, 1, 2, 1)
	has(t, "P8.2 behind ErrNone", a, x, 4, s)
	// Another table, another arena.
	y := intern.New(a)
	hasNone(t, "P8.1 another table", a, y, 4)
	hasNone(t, "P8.1 a nil table", a, nil, 4)
	other, z := made(t, 1024)
	hasNone(t, "P8.1 another arena", other, x, 4)
	hasNone(t, "P8.1 a nil arena", nil, x, 4)
	hasNone(t, "P8.1 both", other, z, 4)
	has(t, "P8.2 behind ErrNone", a, x, 4, s)
	// A handle that was Put's, and is another block's now.
	drops(t, "P8.1", a, x, 4)
	x.Add(wire("www a"))
	x.Add(wire("a"))
	x.Add(wire("mx a"))
	h, _ := a.Alloc(28)
	a.Write(h, 0, b)
	is(t, "P8.1 the handle", h, 4)
	hasNone(t, "P8.1 was Put's", a, x, 4)
	a.Free(4)
	// One that its arena freed.
	puts(t, "P8.1", a, x, s, 4)
	a.Free(4)
	hasNone(t, "P8.1 freed", a, x, 4)
	h, _ = a.Alloc(28)
	a.Write(h, 0, b)
	hasNone(t, "P8.1 freed, and another's", a, x, 4)
}

func TestDrop(t *testing.T) {
	a, x := made(t, 1024)
	names := []string{wire("www a"), wire("a"), wire("ns a"), "\x00"}
	one := set(wire("a"), wire("www a"), api.NS, wire("ns a"), wire("ns a"), "\x00")
	two := set(wire("a"), wire("www a"), api.CNAME, wire("ns a"))
	puts(t, "P8.1", a, x, one, 5)
	puts(t, "P8.1", a, x, two, 6)
	x.Add("\x00")
	uses(t, "P8.1", x, names, 2, 2, 3, 2)
	drops(t, "P8.1 the first", a, x, 5)
	uses(t, "P8.1 the first is gone", x, names, 1, 1, 1, 1)
	rooms(t, "P8.1 the first is gone", a, x, 4, 4*32+32)
	_, ok := a.Size(5)
	is(t, "P8.1 its block", ok, false)
	has(t, "P8.2 the second", a, x, 6, two)
	// Its handle is the next one's.
	puts(t, "P8.1", a, x, one, 5)
	has(t, "P8.2 the second", a, x, 6, two)
	drops(t, "P8.1 the second", a, x, 6)
	uses(t, "P8.1 the second is gone", x, names, 1, 1, 2, 2)
	drops(t, "P8.1 all", a, x, 5)
	uses(t, "P8.1 all gone", x, names, 0, 0, 0, 1)
	rooms(t, "P8.1 all gone", a, x, 1, 32)
	hasNone(t, "P8.1 a name's", a, x, 4)
	is(t, "P8.1 a name that another uses", x.Uses(4), 1)
}

func TestCost(t *testing.T) {
	a, x := made(t, 4096)
	for i, s := range several() {
		size, names, _ := told(s)
		what := fmt.Sprintf("P8.1 Cost of set %d", i)
		want := costOf(size)
		met := map[string]bool{}
		for _, n := range names {
			if n = small(n); !met[n] {
				want += costOf(len(n) + 8)
				met[n] = true
			}
		}
		is(t, what, pack.Cost(x, s), want)
		is(t, what+", nil", pack.Cost(nil, s), want)
		is(t, what+", of a nil arena", pack.Cost(intern.New(nil), s), want)
		for _, n := range names {
			id, _ := x.Add(strings.ToUpper(n))
			if x.Uses(id) == 1 {
				want -= costOf(len(n) + 8)
			}
			is(t, what+", a name more is there", pack.Cost(x, s), want)
		}
		is(t, what+", all names are there", want, costOf(size))
		for _, n := range names {
			id, _ := x.Find(n)
			x.Drop(id)
		}
		rooms(t, what, a, x, 0, 0)
	}
}

func TestNil(t *testing.T) {
	a, x := made(t, 1024)
	s := set(wire("a"), wire("www a"), api.A, "1234")
	for what, y := range map[string]*intern.Table{"a nil table": nil, "a table of a nil arena": intern.New(nil)} {
		refused(t, "P8.1 "+what, a, y, s, api.ErrFull)
		refused(t, "P8.1 both nil: "+what, nil, y, s, api.ErrFull)
		refused(t, "P8.1 what may not be: "+what, a, y, api.Set{}, api.ErrArg)
		for _, h := range append(far(), 1, 2, 3) {
			hasNone(t, "P8.1 "+what, a, y, h)
			hasNone(t, "P8.1 both nil: "+what, nil, y, h)
		}
	}
	refused(t, "P8.1 a nil arena", nil, x, s, api.ErrFull)
	rooms(t, "P8.1 behind ErrFull", a, x, 0, 0)
	is(t, "P8.1 behind ErrFull", blocks(a), []string{})
}

// A table may have its names in another arena than the blocks are in.
func TestTwoArenas(t *testing.T) {
	a, _ := made(t, 1024)
	b, x := made(t, 1024)
	s := set(wire("a"), wire("www a"), api.MX, "ab"+wire("mx a"))
	for h := 1; h <= 4; h++ { // handles that are names' ids, too
		puts(t, "P8.1 two arenas", a, x, s, h)
	}
	is(t, "P8.1 two arenas: Used", []int{a.Used(), b.Used()}, []int{4 * 32, 3 * 32})
	for h := 1; h <= 4; h++ {
		has(t, "P8.2 two arenas", a, x, h, s)
	}
	a.Alloc(504)
	refused(t, "P8.1 two arenas", a, x, set("\x00", wire("b"), 99, strings.Repeat("x", 300)), api.ErrFull)
	uses(t, "P8.1 two arenas", x, []string{wire("www a"), wire("a"), wire("mx a"), wire("b")}, 4, 4, 4, 0)
	for h := 1; h <= 4; h++ {
		drops(t, "P8.1 two arenas", a, x, h)
	}
	is(t, "P8.1 two arenas: Used", []int{a.Used(), b.Used()}, []int{512, 0})
}

// What is handed in stays as it was, and is not kept; what is answered is new.
func TestMemory(t *testing.T) {
	a, x := made(t, 4096)
	for i, s := range several() {
		what := fmt.Sprintf("P8.2 set %d", i)
		spare := api.RR{Name: "spare"}
		given := s
		given.RRs = append(slices.Clone(s.RRs), spare)[:len(s.RRs)]
		h, _ := pack.Put(a, x, given)
		pack.Size(given)
		pack.Cost(x, given)
		is(t, what+", handed in", []any{given.Key, given.Kind, given.Zone}, []any{s.Key, s.Kind, s.Zone})
		is(t, what+", handed in, and its spare room", given.RRs[:len(s.RRs)+1], append(slices.Clone(s.RRs), spare))
		for i := range given.RRs {
			given.RRs[i] = spare
		}
		got, _ := pack.Get(a, x, h)
		is(t, what+", not kept", got, folded(s))
		for i := range got.RRs {
			got.RRs[i] = spare
		}
		has(t, what+", answered", a, x, h, s)
		drops(t, what, a, x, h)
	}
}

// Whatever is done to its names and its block from outside: each call ends, and no set is told that may not be.
func TestOverwritten(t *testing.T) {
	for i, s := range several() {
		size, names, _ := told(s)
		for at := range min(size, 80) {
			for _, c := range []byte{0, 1, 2, 3, 4, 255} {
				a, x := made(t, 8192)
				h, _ := pack.Put(a, x, s)
				a.Write(h, at, []byte{c})
				got, e := pack.Get(a, x, h)
				if n, _, bad := told(got); e == api.OK && (bad != api.OK || n != size) {
					t.Fatalf("set %d with %d at %d: got %#v", i, c, at, got)
				}
				if e != api.OK {
					is(t, "beside an error", []any{got, e}, []any{api.Set{}, api.ErrNone})
				}
				is(t, "Drop", pack.Drop(a, x, h), e)
			}
		}
		for id := range names {
			a, x := made(t, 8192)
			h, _ := pack.Put(a, x, s)
			for x.Drop(id+1) == api.OK {
			}
			if x.Count()+1 < h {
				hasNone(t, fmt.Sprintf("set %d without name %d", i, id+1), a, x, h)
			}
		}
	}
}
