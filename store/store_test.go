package store_test

import (
	"fmt"
	"math"
	"slices"
	"strings"
	"testing"

	"freshet/api"
	"freshet/name"
	"freshet/store"
)

func TestNew(t *testing.T) {
	for _, budget := range []int{2048, 2049, 2063, 2064, 5000, 1<<20 - 1, 1 << 20} {
		s := made(t, budget)
		what := fmt.Sprintf("P10.1 New(%d)", budget)
		rooms(t, what, s, 0, 0, budget)
		went(t, what, s, "")
		is(t, what+": Items", walked(s.Items(), -1), "")
		is(t, what+": Sweep", s.Sweep(1<<40), 0)
		hasNone(t, what, s, key("a.", 1))
		hasNone(t, what, s, key(".", 1))
	}
	for _, budget := range []int{2047, 1<<20 + 1, 0, 1, 512, 1023, 1024, -1, -2048, 1 << 21, 1<<32 + 2048, math.MaxInt, math.MinInt} {
		s, e := store.New(budget)
		if s != nil || e != api.ErrArg {
			t.Errorf("P10.1 New(%d): got %v %d", budget, s, e)
		}
	}
}

func TestPut(t *testing.T) {
	s := made(t, 4096)
	for i, x := range []api.Set{
		set("Www.A.", api.A, "abcd", "ABCD"),
		set("www.a.", api.MX, "AB"+n("Mail.A."), "CD"+n(".")),
		set("a.", api.NS, n("NS.a."), n("ns.B.")),
		set("a.", api.SOA, n("A.")+n("Admin.a.")+"ABCDEFGHIJKLMNOPQRST"),
		set(".", api.TXT, "\x02Ab\x00"),
		big("A.", 300),
		nothing("www.A.", api.AAAA),
		{Key: key("no.A.", 255), Kind: 2, Zone: n("A.")},
	} {
		what := fmt.Sprintf("P10.1 set %d", i)
		used := s.Used()
		puts(t, what, s, x, i, 10*i, 1000+i)
		is(t, what+": Count", s.Count(), i+1)
		is(t, what+": Used, Left", s.Used() > used && s.Used()+s.Left() == 4096, true)
		// Letters' size is nothing to a Key.
		k := x.Key
		k.Name = strings.ToUpper(k.Name)
		gets(t, what, s, k, 999)
	}
	hasNone(t, "P10.2 another type", s, key("a.", api.A))
	hasNone(t, "P10.2 another name", s, key("b.", api.NS))
	hasNone(t, "P10.2 a name that is there, but no item's", s, key("ns.b.", api.NS))
	hasNone(t, "P10.2 no name", s, api.Key{Name: "a.", Type: api.NS})
	hasNone(t, "P10.2 no name", s, api.Key{})
	for _, of := range append(far(), 0, 65536, 1<<32+api.NS) {
		hasNone(t, "P10.2 no type", s, key("a.", of))
	}
	went(t, "P10.1 there was room", s, "")
}

// The numbers' edges, and each that is beyond one.
func TestPutNumbers(t *testing.T) {
	s := made(t, 2048)
	x := set("a.", api.A, "abcd")
	for _, ok := range [][3]int{{0, 0, 1}, {9, 0, 1}, {5, 5, 6}, {0, 0, 1 << 40}, {9, 1<<40 - 1, 1 << 40}} {
		puts(t, "P10.1", s, x, ok[0], ok[1], ok[2])
	}
	puts(t, "P10.1", s, x, 1, 2, 3)
	no := [][3]int{{-1, 0, 1}, {10, 0, 1}, {0, -1, 1}, {0, -1, 0}, {0, 0, 0}, {0, 7, 7}, {0, 7, 6}, {0, 1 << 40, 1 << 40}, {0, 1 << 40, 1<<40 + 1}, {0, 0, 1<<40 + 1}, {math.MinInt, 0, 1}, {math.MaxInt, 0, 1}}
	for _, at := range far() {
		no = append(no, [3]int{0, at, 1}, [3]int{0, 0, at}, [3]int{0, at, at}, [3]int{at, 0, 1})
		if at < math.MaxInt {
			no = append(no, [3]int{0, at, at + 1})
		}
	}
	for _, v := range no {
		refused(t, "P10.1", s, x, v[0], v[1], v[2], api.ErrArg)
		refused(t, "P10.1 of a nil one", nil, x, v[0], v[1], v[2], api.ErrArg)
	}
	has(t, "P10.1 behind ErrArg", s, store.Item{Set: x, Rank: 1, Came: 2, Expiry: 3})
	rooms(t, "P10.1 behind ErrArg", s, 1, 96, 1952)
	went(t, "P10.1 behind ErrArg", s, "")
}

// Which error is told first, and that it changes nothing.
func TestPutErrors(t *testing.T) {
	s := made(t, 2048)
	x := set("a.", api.A, "abcd")
	puts(t, "P10.1", s, x, 1, 2, 3)
	puts(t, "P10.1", s, big("b.", 100), 1, 2, 3)
	pins(t, s, x.Key, 1)
	mayNotBe := set("a.", api.A, "abc")
	most := strings.Repeat("x", 1000)
	tooLong := set("a.", txt, most, most, most, most, most)
	for range 2 {
		for _, held := range []*store.Store{s, nil} {
			refused(t, "P10.1 what may not be", held, mayNotBe, 1, 2, 3, api.ErrArg)
			refused(t, "P10.1 nothing", held, api.Set{}, 1, 2, 3, api.ErrArg)
			refused(t, "P10.1 too much", held, tooLong, 1, 2, 3, api.ErrBig)
			refused(t, "P10.1 too much, and numbers", held, tooLong, -1, 3, 2, api.ErrBig)
			refused(t, "P10.1 numbers", held, x, 1, 3, 3, api.ErrArg)
			refused(t, "P10.1 numbers", held, tooBig("b."), 1, 3, 3, api.ErrArg)
		}
		refused(t, "P10.1 pinned", s, x, 1, 2, 3, api.ErrPinned)
		refused(t, "P10.1 pinned, its name in great letters", s, set("A.", api.A, "efgh"), 1, 2, 3, api.ErrPinned)
		puts(t, "P10.1 what is there is pinned, and of another type", s, nothing("a.", txt), 1, 2, 3)
		is(t, "P10.1", s.Drop(key("a.", txt)), api.OK)
		pins(t, s, key("b.", txt), 1)
		refused(t, "P10.1 pinned, and no room", s, tooBig("b."), 1, 2, 3, api.ErrPinned)
		is(t, "P10.2", s.Unpin(key("b.", txt)), api.OK)
		has(t, "P10.1 behind an error", s, store.Item{Set: x, Rank: 1, Came: 2, Expiry: 3, Pins: 1})
		rooms(t, "P10.1 behind an error", s, 2, 96+160, 2048-96-160)
		went(t, "P10.1 behind an error", s, "")
	}
	is(t, "P10.2", s.Unpin(x.Key), api.OK)
	puts(t, "P10.1 not pinned any more", s, x, 4, 5, 6)
}

// One that is put again: the elder is gone, whatever comes.
func TestPutAgain(t *testing.T) {
	s := made(t, 2048)
	letters(t, s, "abcdefgh")
	gets(t, "P10.2", s, key("a.", txt), 0)
	gets(t, "P10.2", s, key("c.", txt), 0)
	puts(t, "P10.1 again", s, set("A.", txt, "other"), 7, 3, 900)
	puts(t, "P10.1 again", s, nothing("b.", txt), 8, 4, 900)
	rooms(t, "P10.1 again", s, 8, 32+6*160+2*64, 2048-32-6*160-2*64)
	went(t, "P10.1 again", s, "")
	// The same room is enough for the same set.
	letters(t, s, "ijkl")
	puts(t, "P10.1", s, big("m.", 100), 1, 0, 1000)
	rooms(t, "P10.1 full", s, 13, 1920, 128)
	puts(t, "P10.1 again, in its own room", s, big("d.", 102), 1, 0, 1000)
	rooms(t, "P10.1 full", s, 13, 1920, 128)
	went(t, "P10.1 again, in its own room", s, "")
	// It is the newest one, not protected any more.
	inOrder(t, "P10.1 again", s, 1, "e f g h a b i j k l m d c")
}

func TestPutAgainThenFull(t *testing.T) {
	s := made(t, 2048)
	letters(t, s, "abc")
	pins(t, s, key("b.", txt), 1)
	refused(t, "P10.1 again, and no room", s, tooBig("c."), 1, 0, 9, api.ErrFull)
	// It is gone, not evicted.
	went(t, "P10.1 again, and no room", s, "a")
	hasNone(t, "P10.1 again, and no room", s, key("c.", txt))
	rooms(t, "P10.1 again, and no room", s, 1, 192, 1856)
	// Of the time of the elder one nothing is left.
	puts(t, "P10.1", s, big("a.", 1), 1, 0, 5)
	puts(t, "P10.1", s, big("a.", 1), 1, 0, 50)
	is(t, "P10.1 the elder one's time", s.Sweep(49), 0)
	is(t, "P10.1 its own", s.Sweep(50), 1)
	went(t, "P10.1", s, "a")
}

func TestGet(t *testing.T) {
	s := made(t, 2048)
	x := set("Www.a.", api.A, "abcd")
	puts(t, "P10.1", s, x, 3, 10, 20)
	for _, now := range []int{10, 19, 0, -1, math.MinInt} {
		gets(t, "P10.2 not over", s, key("www.A.", api.A), now)
	}
	for _, now := range []int{20, 21, 1 << 40, 1<<40 + 1, math.MaxInt} {
		over(t, "P10.2 over", s, x.Key, now)
	}
	has(t, "P10.2 over or not", s, store.Item{Set: x, Rank: 3, Came: 10, Expiry: 20})
	rooms(t, "P10.2", s, 1, 96, 2048-96)
	went(t, "P10.2 nobody goes by being over", s, "")
}

// Get is a Touch, if it tells the item; nothing else is one.
func TestTouch(t *testing.T) {
	b := key("b.", txt)
	s := made(t, 2048)
	letters(t, s, "abcde")
	gets(t, "P10.2", s, b, 999)
	inOrder(t, "P10.2 Get", s, 1, "a c d e b")
	for what, other := range map[string]func(){
		"Peek":                    func() { s.Peek(b) },
		"Get of one that is over": func() { over(t, "P10.2", s, b, 1000) },
		"Get of another type":     func() { s.Get(key("b.", 1), 0) },
		"Pin and Unpin":           func() { s.Pin(b); s.Unpin(b) },
		"Sweep":                   func() { s.Sweep(999) },
		"Items":                   func() { walked(s.Items(), -1) },
	} {
		letters(t, s, "abcde")
		other()
		inOrder(t, "P10.2 "+what, s, 1, "a b c d e")
	}
}

func TestDrop(t *testing.T) {
	s := made(t, 2048)
	letters(t, s, "abcd")
	a, b := key("A.", txt), key("b.", txt)
	pins(t, s, a, 2)
	is(t, "P10.2 Drop of one that is pinned", []api.Errno{s.Drop(a), s.Drop(a), s.Unpin(a), s.Drop(a)}, []api.Errno{api.ErrPinned, api.ErrPinned, api.OK, api.ErrPinned})
	rooms(t, "P10.2 behind ErrPinned", s, 4, 32+4*160, 2048-32-4*160)
	is(t, "P10.2 Drop", []api.Errno{s.Unpin(a), s.Drop(a), s.Drop(b)}, []api.Errno{api.OK, api.OK, api.OK})
	hasNone(t, "P10.2 Drop", s, a)
	hasNone(t, "P10.2 Drop", s, b)
	rooms(t, "P10.2 Drop", s, 2, 32+2*160, 2048-32-2*160)
	went(t, "P10.2 whoever is dropped is not evicted", s, "")
	is(t, "P10.2 Items", walked(s.Items(), -1), "c d")
	letters(t, s, "a")
	inOrder(t, "P10.2 Drop", s, 1000, "c d a")
	rooms(t, "P10.2 all gone", s, 0, 0, 2048)
}

func TestPins(t *testing.T) {
	s := made(t, 2048)
	letters(t, s, "ab")
	a := key("A.", txt)
	is(t, "P10.2 Unpin without a pin", s.Unpin(a), api.ErrArg)
	for i := range 1000 {
		is(t, "P10.2 Pin", s.Pin(a), api.OK)
		x, _ := s.Peek(a)
		is(t, "P10.2 Pins", x.Pins, i+1)
	}
	is(t, "P10.2 one more", []api.Errno{s.Pin(a), s.Pin(a)}, []api.Errno{api.ErrArg, api.ErrArg})
	has(t, "P10.2 Pins", s, store.Item{Set: big("a.", 100), Rank: 1, Expiry: 1000, Pins: 1000})
	x, _ := s.Get(a, 0)
	is(t, "P10.2 Pins told by Get", x.Pins, 1000)
	for x := range s.Items() {
		is(t, "P10.2 Pins told by Items", x.Pins, map[string]int{n("a."): 1000}[x.Set.Key.Name])
	}
	for range 1000 {
		is(t, "P10.2 Unpin", s.Unpin(a), api.OK)
	}
	is(t, "P10.2 without a pin, once more", []api.Errno{s.Unpin(a), s.Unpin(a), s.Pin(a), s.Unpin(a)}, []api.Errno{api.ErrArg, api.ErrArg, api.OK, api.OK})
	// One that is over may be pinned, and one that comes again has none.
	puts(t, "P10.1", s, big("a.", 1), 1, 0, 1)
	over(t, "P10.2", s, a, 5)
	pins(t, s, a, 1)
	is(t, "P10.2", s.Unpin(a), api.OK)
	puts(t, "P10.1 again", s, big("a.", 1), 1, 0, 1)
}

func TestItems(t *testing.T) {
	s := made(t, 8192)
	texts := []string{"b.a.", ".", "a.", "B.", "a.b.", "z.a.", "aa.", "A-.a.", "a.b.a."}
	for _, k := range []string{"a.b.", "z.a.", "aa.", ".", "B.", "a.b.a.", "b.a.", "A-.a.", "a."} {
		for _, of := range []int{255, 1, 65535, 2} {
			puts(t, "P10.1", s, nothing(k, of), 1, of%7, 1000-of%11)
		}
	}
	slices.SortFunc(texts, func(x, y string) int { return map[bool]int{true: -1, false: 1}[name.Less(n(x), n(y))] })
	var want []store.Item
	for _, k := range texts {
		for _, of := range []int{1, 2, 255, 65535} {
			want = append(want, store.Item{Set: folded(nothing(k, of)), Rank: 1, Came: of % 7, Expiry: 1000 - of%11})
		}
	}
	walk := s.Items()
	for range 2 {
		got := []store.Item{}
		for x := range walk {
			got = append(got, x)
		}
		is(t, "P10.2 Items by name, then type", got, want)
	}
	is(t, "P10.2 Items, stopped", []string{walked(walk, 1), walked(walk, 5), walked(walk, -1)[:13]}, []string{"", "    a", "    a a a a a"[:13]})
	// A walk begins when it is walked, and goes over what was there then.
	is(t, "P10.2", s.Drop(key(".", 1)), api.OK)
	got := []store.Item{}
	for x := range walk {
		got = append(got, x)
		s.Pin(x.Set.Key)
		s.Pin(want[len(want)-1].Set.Key)
		s.Drop(want[min(len(got)+1, len(want)-1)].Set.Key)
		s.Put(nothing("zz.", 1), 1, 0, 1)
	}
	is(t, "P10.2 Items, with changes between", got, want[1:])
}

func TestEvicted(t *testing.T) {
	s := made(t, 2048)
	for i, k := range []string{"B.", "a.", "c.B.", "D."} {
		puts(t, "P10.1", s, nothing(k, 65535-i), 1, 0, 10-i)
	}
	is(t, "P10.2 Sweep", []int{s.Sweep(8), s.Sweep(9), s.Sweep(9)}, []int{2, 1, 0})
	refused(t, "P10.1", s, tooBig("z."), 1, 0, 9, api.ErrFull)
	l := s.Evicted()
	is(t, "P10.2 Evicted", l, []api.Key{key("d.", 65532), key("c.b.", 65533), key("a.", 65534), key("b.", 65535)})
	went(t, "P10.2 since the last ask", s, "")
	letters(t, s, "abc")
	is(t, "P10.2 Sweep", s.Sweep(1000), 3)
	clear(l[:cap(l)])
	m := s.Evicted()
	is(t, "P10.2 Evicted", told(m), "a b c")
	is(t, "P10.3 what was answered stays", told(l[:1]), told([]api.Key{{}}))
	// One Key as often as it went.
	for range 3 {
		letters(t, s, "x")
		s.Sweep(1000)
	}
	went(t, "P10.2 Evicted", s, "x x x")
}

func TestNil(t *testing.T) {
	for what, s := range map[string]*store.Store{"a nil one": nil, "one that is nothing": {}} {
		for range 2 {
			for _, k := range []api.Key{key("a.", 1), key(".", 1), {}} {
				hasNone(t, "P10.3 "+what, s, k)
			}
			refused(t, "P10.3 "+what, s, set("a.", 1, "abcd"), 0, 0, 1, api.ErrFull)
			refused(t, "P10.3 "+what+", forms first", s, set("a.", 1, "abc"), 0, 0, 1, api.ErrArg)
			refused(t, "P10.3 "+what+", forms first", s, set("a.", 1, "abcd"), 10, 0, 1, api.ErrArg)
			refused(t, "P10.3 "+what+", forms first", s, set("a.", 1, "abcd"), 0, 1, 1, api.ErrArg)
			rooms(t, "P10.3 "+what, s, 0, 0, 0)
			is(t, "P10.3 "+what+": Sweep", []int{s.Sweep(0), s.Sweep(math.MaxInt), s.Sweep(math.MinInt)}, []int{0, 0, 0})
			is(t, "P10.3 "+what+": Items", walked(s.Items(), -1), "")
			went(t, "P10.3 "+what, s, "")
		}
	}
}

// What is handed in stays as it was, and is not kept; what is answered is new.
func TestMemory(t *testing.T) {
	s := made(t, 2048)
	x := set("A.", api.NS, n("NS.a."), n("b."))
	spare := api.RR{Name: "spare"}
	given := x
	given.RRs = append(slices.Clone(x.RRs), spare)[:2]
	is(t, "P10.1", s.Put(given, 1, 0, 9), api.OK)
	is(t, "P10.3 handed in, and its spare room", given.RRs[:3], append(slices.Clone(x.RRs), spare))
	given.RRs[0], given.RRs[1] = spare, spare
	want := store.Item{Set: x, Rank: 1, Expiry: 9}
	has(t, "P10.3 not kept", s, want)
	one, _ := s.Peek(x.Key)
	two, _ := s.Get(x.Key, 0)
	one.Set.RRs[0], two.Set.RRs[1] = spare, spare
	for x := range s.Items() {
		x.Set.RRs[0] = spare
	}
	has(t, "P10.3 what is answered is new", s, want)
	is(t, "P10.3 each is new", []bool{one.Set.RRs[1] == spare, two.Set.RRs[0] == spare}, []bool{false, false})
}

// Two stores have nothing in common.
func TestApart(t *testing.T) {
	one, two := made(t, 2048), made(t, 2048)
	letters(t, one, "abc")
	letters(t, two, "bcd")
	pins(t, one, key("b.", txt), 1)
	is(t, "P10.2 Sweep", one.Sweep(1000), 2)
	is(t, "P10.2 Items", []string{walked(one.Items(), -1), walked(two.Items(), -1)}, []string{"b", "b c d"})
	is(t, "P10.2 Drop", []api.Errno{one.Drop(key("b.", txt)), two.Drop(key("b.", txt))}, []api.Errno{api.ErrPinned, api.OK})
	went(t, "P10.2", one, "a c")
	went(t, "P10.2", two, "")
}
