package cache_test

import (
	"math"
	"slices"
	"strings"
	"testing"

	"freshet/api"
	"freshet/cache"
	"freshet/name"
	"freshet/record"
	"freshet/store"
)

func TestFind(t *testing.T) {
	c := made(t, 4096, 1000, 100)
	x := addrs("Www.a.", 1, 2)
	puts(t, "P13.1", c, x, 3, 30, 10, 30)
	for _, at := range []struct{ now, left int }{
		{10, 30}, {11, 29}, {39, 1}, {9, 31}, {0, 40}, {-1, 41}, {-1 << 40, 1<<40 + 40}, {math.MinInt, math.MaxInt}, {math.MinInt + 41, math.MaxInt},
	} {
		finds(t, "P13.2", c, key("wWW.A.", api.A), at.now, x, at.left, 3)
	}
	for _, now := range []int{40, 41, 1 << 40, math.MaxInt} {
		findsNone(t, "P13.3 at its expiry, and behind it", c, x.Key, now)
	}
	findsNone(t, "P13.2 another name", c, key("a.", api.A), 10)
	findsNone(t, "P13.2 another name", c, key("x.www.a.", api.A), 10)
	for _, k := range []api.Key{{Name: "www.a.", Type: api.A}, {Name: "", Type: api.A}, {Name: n("www.a.") + "x", Type: api.A}, {}} {
		findsNone(t, "P13.2 no name", c, k, 10)
	}
	for _, of := range []int{0, -1, api.AAAA, 254, 255, 256, 65536, 1<<32 + api.A, math.MinInt, math.MaxInt} {
		findsNone(t, "P13.2 another type", c, key("www.a.", of), 10)
	}
}

// That there is no such name is found for any type, unless something of that type is there.
func TestFindNone(t *testing.T) {
	c := made(t, 4096, 1000, 100)
	none := noName("Www.A.")
	puts(t, "P13.1", c, none, 3, 20, 10, 20)
	for _, of := range []int{1, 2, 5, txt, 254, 255, 256, 65535, 0, -1, 65536, math.MinInt, math.MaxInt} {
		finds(t, "P13.2 no such name", c, key("www.a.", of), 29, none, 1, 3)
		findsNone(t, "P13.3 no such name, over", c, key("www.a.", of), 30)
		findsNone(t, "P13.2 the name above", c, key("a.", of), 10)
		findsNone(t, "P13.2 the name below", c, key("x.www.a.", of), 10)
	}
	x, y := addrs("www.A.", 7), noType("WWW.a.", api.MX)
	puts(t, "P13.1", c, x, 0, 5, 10, 5)
	puts(t, "P13.1", c, y, 0, 25, 10, 25)
	finds(t, "P13.2 ahead of no such name", c, x.Key, 14, x, 1, 0)
	finds(t, "P13.2 over, so that there is no such name", c, x.Key, 15, none, 15, 3)
	finds(t, "P13.2 no such type, ahead of no such name", c, y.Key, 29, y, 6, 0)
	finds(t, "P13.2 no such type, and no such name is over", c, y.Key, 34, y, 1, 0)
	findsNone(t, "P13.3 all is over", c, y.Key, 35)
	finds(t, "P13.2 type None, asked itself", c, none.Key, 29, none, 1, 3)
	findsNone(t, "P13.2 type None, asked itself", c, none.Key, 30)
}

func TestClosest(t *testing.T) {
	c := made(t, 8192, 1000, 1000)
	root, a, cba := servers(".", "r."), servers("A.", "X.", "y."), servers("c.b.a.", "z.")
	puts(t, "P13.1", c, root, 1, 50, 0, 50)
	puts(t, "P13.1", c, a, 2, 20, 0, 20)
	puts(t, "P13.1", c, cba, 9, 10, 0, 10)
	puts(t, "P13.1 no NS there", c, noType("B.a.", api.NS), 4, 50, 0, 50)
	puts(t, "P13.1 no such name", c, noName("d.b.a."), 4, 50, 0, 50)
	puts(t, "P13.1 other records", c, addrs("b.a.", 1), 4, 50, 0, 50)
	puts(t, "P13.1 other records", c, addrs("e.", 1), 4, 50, 0, 50)
	for _, of := range []string{"c.b.a.", "C.B.A.", "w.c.b.a.", "v.w.C.b.a."} {
		closest(t, "P13.2", c, n(of), 9, cba, 1, 9)
		closest(t, "P13.2 the closest one is over", c, n(of), 10, a, 10, 2)
		closest(t, "P13.2 two are over", c, n(of), 20, root, 30, 1)
		noneClosest(t, "P13.3 all are over", c, n(of), 50)
	}
	for _, of := range []string{"a.", "A.", "b.a.", "d.b.A.", "x.d.b.a.", "e.a.", "xc.b.a."} {
		closest(t, "P13.2", c, n(of), 0, a, 20, 2)
		closest(t, "P13.2 ahead of its time", c, n(of), -5, a, 25, 2)
		closest(t, "P13.2 over", c, n(of), 49, root, 1, 1)
	}
	for _, of := range []string{".", "e.", "b.", "c.b.", "a.e.", "aa.", "b.aa."} {
		closest(t, "P13.2", c, n(of), 0, root, 50, 1)
	}
	long := strings.Repeat("\x01l", 126) + n("a.")
	closest(t, "P13.2 as many labels as there may be", c, long, 0, a, 20, 2)
	for _, of := range []string{"", "a", "a.", "\x01a", "\x00\x00", n("a.") + "\x00", "\x01l" + long, "\x40" + strings.Repeat("x", 64) + "\x00", "\xc0\x00"} {
		noneClosest(t, "P13.2 not Valid", c, of, 0)
	}
}

// Without a set of the root there may be none.
func TestClosestNone(t *testing.T) {
	c := small(t)
	noneClosest(t, "P13.2 nothing", c, n("a."), 0)
	noneClosest(t, "P13.2 nothing", c, n("."), 0)
	puts(t, "P13.1", c, servers("a.", "x."), 1, 9, 0, 9)
	puts(t, "P13.1", c, noType(".", api.NS), 1, 9, 0, 9)
	noneClosest(t, "P13.2 of other names", c, n("b."), 0)
	noneClosest(t, "P13.2 of what is above", c, n("."), 0)
	closest(t, "P13.2", c, n("b.a."), 0, servers("a.", "x."), 9, 1)
	noneClosest(t, "P13.3", c, n("b.a."), 9)
}

func TestAddrs(t *testing.T) {
	c := made(t, 8192, 1000, 1000)
	puts(t, "P13.1", c, addrs("Www.a.", 5, 1<<32-1, 3, 5, 0, 256, 255, 3, 5), 0, 10, 0, 10)
	puts(t, "P13.1", c, addrs("one.", 7), 9, 20, 0, 20)
	puts(t, "P13.1", c, noType("none.", api.A), 4, 20, 0, 20)
	puts(t, "P13.1", c, noName("no."), 4, 20, 0, 20)
	puts(t, "P13.1", c, set("other.", api.TXT, "\x03abc"), 4, 20, 0, 20)
	puts(t, "P13.1", c, set("other.", api.AAAA, "abcdefghijklmnop"), 4, 20, 0, 20)
	for _, now := range []int{0, 9, -1, math.MinInt} {
		numbers(t, "P13.2 rising, each once", c, n("wWW.A."), now, 0, 3, 5, 255, 256, 1<<32-1)
	}
	numbers(t, "P13.2", c, n("one."), 19, 7)
	for _, now := range []int{10, 11, math.MaxInt} {
		numbers(t, "P13.3 over", c, n("www.a."), now)
	}
	numbers(t, "P13.3 over", c, n("one."), 20)
	for _, s := range []string{"none.", "no.", "other.", "a.", "x.www.a.", "."} {
		numbers(t, "P13.2 no A set", c, n(s), 0)
	}
	for _, of := range []string{"", "one.", "\x03one", n("one.") + "\x00"} {
		numbers(t, "P13.2 no name", c, of, 0)
	}
}

// Use is 10's Get, of just that Key; nothing else uses anything.
func TestUse(t *testing.T) {
	c := small(t)
	none := noName("b.")
	b := key("B.", txt)
	letters(t, c, "abcd")
	for _, now := range []int{0, 999, -1, math.MinInt} {
		is(t, "P13.2 Use", c.Use(b, now), true)
	}
	for _, now := range []int{1000, 1001, math.MaxInt} {
		is(t, "P13.3 Use at its expiry, and behind it", c.Use(key("a.", txt), now), false)
	}
	for _, k := range []api.Key{key("x.", txt), key("c.", 1), key("c.", 255), {Name: "c.", Type: txt}, {}} {
		is(t, "P13.2 Use of what is not there", c.Use(k, 0), false)
	}
	inOrder(t, "P13.2 Use", c, 0, "a c d b")
	puts(t, "P13.1", c, none, 3, 9, 0, 9)
	is(t, "P13.2 Use asks for no other type", []bool{c.Use(b, 0), c.Use(key("b.", 1), 0), c.Use(none.Key, 0), c.Use(none.Key, 9)}, []bool{false, false, true, false})
	is(t, "P13.2", c.Store().Drop(none.Key), api.OK)
	for what, other := range map[string]func(){
		"Find":                  func() { c.Find(b, 0); c.Find(key("b.", 255), 0) },
		"Find of no such name":  func() { c.Find(key("n.", 1), 0); c.Find(noName("n.").Key, 0) },
		"Closest":               func() { c.Closest(n("x.s."), 0) },
		"Addrs":                 func() { c.Addrs(n("h."), 0) },
		"Clip":                  func() { c.Clip(0, 5) },
		"Store":                 func() { c.Store().Count() },
		"Tick":                  func() { c.Tick(999) },
		"Put that is refused":   func() { put(t, "P13.1", c, big("b.", 1), 0, 5, 0, api.ErrNone) },
		"Put of no time":        func() { put(t, "P13.1", c, big("b.", 1), 1, 0, 0, api.ErrArg) },
		"Use of what is not it": func() { c.Use(key("b.", 1), 0); c.Use(b, 1000) },
	} {
		letters(t, c, "ab")
		puts(t, "P13.1", c, noName("n."), 3, 1000, 0, 1000)
		puts(t, "P13.1", c, servers("s.", "x."), 3, 1000, 0, 1000)
		puts(t, "P13.1", c, addrs("h.", 1), 3, 1000, 0, 1000)
		letters(t, c, "cd")
		other()
		inOrder(t, "P13.2 "+what+" uses nothing", c, 0, "a b n s h c d")
	}
}

func TestTick(t *testing.T) {
	c := made(t, 2048, 1000, 100)
	for i, s := range []string{"a.", "b.", "c.", "d.", "e."} {
		puts(t, "P13.1", c, big(s, 100), 1, []int{7, 5, 7, 9, 1}[i], 0, []int{7, 5, 7, 9, 1}[i])
	}
	is(t, "P10.2 Pin", c.Store().Pin(key("c.", txt)), api.OK)
	is(t, "P13.2 Tick", []int{c.Tick(0), c.Tick(-1), c.Tick(math.MinInt), c.Tick(1), c.Tick(4), c.Tick(7), c.Tick(7)}, []int{0, 0, 0, 1, 0, 2, 0})
	went(t, "P13.2 Tick", c, "e b a")
	rooms(t, "P13.2 Tick", c, 2, 32+2*160, 2048-32-2*160)
	findsNone(t, "P13.3 over, but pinned", c, key("c.", txt), 7)
	finds(t, "P13.2 not over", c, key("d.", txt), 7, big("d.", 100), 2, 1)
	is(t, "P10.2 Unpin", c.Store().Unpin(key("c.", txt)), api.OK)
	is(t, "P13.2 Tick", []int{c.Tick(math.MaxInt), c.Tick(math.MaxInt)}, []int{2, 0})
	went(t, "P13.2 Tick", c, "c d")
	rooms(t, "P13.2 Tick", c, 0, 0, 2048)
}

// What is done with the store is done with the cache.
func TestStore(t *testing.T) {
	c := made(t, 4096, 10, 10)
	s := c.Store()
	if s == nil || s != c.Store() {
		t.Fatal("P13.2 Store is not one")
	}
	is(t, "P13.2 the budget", s.Left(), 4096)
	// What is put there holds as long as it says.
	is(t, "P10.1 Put", s.Put(addrs("a.", 2, 1), 9, 5, 500), api.OK)
	finds(t, "P13.2", c, key("a.", api.A), 499, addrs("a.", 2, 1), 1, 9)
	numbers(t, "P13.2", c, n("a."), 499, 1, 2)
	put(t, "P13.1", c, addrs("A.", 3), 4, 5, 499, api.ErrNone)
	// There, no such name may stand under another type, and another kind under None.
	is(t, "P10.1 Put", []api.Errno{s.Put(of(noName("b."), api.A), 3, 5, 50), s.Put(of(noName("b."), api.NS), 3, 5, 50), s.Put(of(big("c.", 1), 255), 3, 5, 50), s.Put(noType("d.", 255), 3, 5, 50)}, []api.Errno{api.OK, api.OK, api.OK, api.OK})
	finds(t, "P13.2 of k, if it is there", c, key("B.", api.A), 49, of(noName("b."), api.A), 1, 3)
	findsNone(t, "P13.2 not under None", c, key("b.", api.MX), 49)
	numbers(t, "P13.2 of Kind 0 alone", c, n("b."), 49)
	noneClosest(t, "P13.2 of Kind 0 alone", c, n("b."), 49)
	finds(t, "P13.2 else of None", c, key("c.", 1), 49, of(big("c.", 1), 255), 1, 3)
	finds(t, "P13.2 else of None", c, key("d.", 1), 49, noType("d.", 255), 1, 3)
	is(t, "P10.2 Drop", s.Drop(key("a.", api.A)), api.OK)
	findsNone(t, "P13.2", c, key("a.", api.A), 5)
}

func TestNil(t *testing.T) {
	for what, c := range map[string]*cache.Cache{"a nil one": nil, "one that is nothing": {}} {
		var none *store.Store
		is(t, "P13.3 "+what+": Store", c.Store(), none)
		for _, x := range []api.Set{addrs("a.", 1), noType("a.", api.A)} {
			put(t, "P13.3 "+what, c, x, 3, 5, 0, api.ErrFull)
			put(t, "P13.3 "+what, c, x, 9, math.MaxInt, 1<<40-1, api.ErrFull)
		}
		put(t, "P13.3 "+what, c, noName("a."), 0, 1, 0, api.ErrFull)
		put(t, "P13.3 "+what+", forms first", c, addrs("a.", 1), 10, 5, 0, api.ErrArg)
		put(t, "P13.3 "+what+", forms first", c, addrs("a.", 1), 3, 5, -1, api.ErrArg)
		put(t, "P13.3 "+what+", forms first", c, set("a.", 1, "abc"), 3, 5, 0, api.ErrArg)
		for _, now := range []int{0, 5, -1, math.MinInt, math.MaxInt} {
			for _, k := range []api.Key{key("a.", 1), key(".", api.NS), key("a.", 255), {}} {
				findsNone(t, "P13.3 "+what, c, k, now)
				is(t, "P13.3 "+what+": Use", c.Use(k, now), false)
				noneClosest(t, "P13.3 "+what, c, k.Name, now)
				numbers(t, "P13.3 "+what, c, k.Name, now)
			}
			is(t, "P13.3 "+what+": Tick", c.Tick(now), 0)
			is(t, "P13.3 "+what+": Clip", []int{c.Clip(0, now), c.Clip(1, now), c.Clip(9, now)}, []int{0, 0, 0})
		}
	}
}

// What is handed in stays as it was, and is not kept; what is answered is new.
func TestMemory(t *testing.T) {
	c := small(t)
	spare := api.RR{Name: "spare"}
	x, y := servers("A.", "NS.a.", "b."), addrs("A.", 9, 3, 9)
	for _, want := range []api.Set{x, y} {
		given := want
		given.RRs = append(slices.Clone(want.RRs), spare)[:len(want.RRs)]
		puts(t, "P13.1", c, given, 3, 9, 0, 9)
		is(t, "P13.3 handed in, and its spare room", given.RRs[:len(want.RRs)+1], append(slices.Clone(want.RRs), spare))
		clear(given.RRs)
		finds(t, "P13.3 not kept", c, want.Key, 0, want, 9, 3)
	}
	f, _ := c.Find(x.Key, 0)
	g, _ := c.Closest(n("w.a."), 0)
	f.Set.RRs[0], g.Set.RRs[1] = spare, spare
	is(t, "P13.3 each is new", []bool{f.Set.RRs[1] == spare, g.Set.RRs[0] == spare}, []bool{false, false})
	l := c.Addrs(n("a."), 0)
	clear(l[:cap(l)])
	numbers(t, "P13.3 what is answered is new", c, n("a."), 0, 3, 9)
	finds(t, "P13.3 what is answered is new", c, x.Key, 0, x, 9, 3)
	closest(t, "P13.3 what is answered is new", c, n("w.a."), 0, x, 9, 3)
}

// Two caches have nothing in common.
func TestApart(t *testing.T) {
	one, two := made(t, 2048, 10, 5), made(t, 2048, 1000, 1000)
	puts(t, "P13.1", one, addrs("a.", 1), 3, 100, 0, 10)
	puts(t, "P13.1", two, addrs("a.", 2), 1, 100, 0, 100)
	puts(t, "P13.1", two, noName("b."), 1, 100, 0, 100)
	numbers(t, "P13.2", one, n("a."), 0, 1)
	numbers(t, "P13.2", two, n("a."), 0, 2)
	findsNone(t, "P13.2", one, key("b.", 1), 0)
	is(t, "P13.2 Tick", []int{one.Tick(10), two.Tick(10)}, []int{1, 0})
	is(t, "P13.2 Clip", []int{one.Clip(0, 50), one.Clip(1, 50), two.Clip(0, 50), two.Clip(1, 50)}, []int{10, 5, 50, 50})
	numbers(t, "P13.2", two, n("a."), 10, 2)
	went(t, "P13.2", one, "a")
	went(t, "P13.2", two, "")
}

// The whole's examples: asked again, nobody; and what there is not, too.
func TestAsWhole(t *testing.T) {
	c := made(t, 2048, 3600, 300)
	www := addrs("www.a.", 16909060)
	puts(t, "W4", c, www, 4, 86400, 100, 3600)
	finds(t, "W4 asked again", c, www.Key, 3699, www, 1, 4)
	findsNone(t, "W4 not behind its time", c, www.Key, 3700)
	f, _ := c.Find(www.Key, 100)
	addr, ok := record.Addr(f.Set.RRs[0])
	is(t, "W4", []any{addr, ok, name.Text(f.Set.Key.Name)}, []any{16909060, true, "www.a."})
	puts(t, "W4 what there is not", c, noName("no.a."), 3, 86400, 100, 300)
	finds(t, "W4 what there is not", c, key("no.a.", api.MX), 399, noName("no.a."), 1, 3)
	findsNone(t, "W4 what there is not, over", c, key("no.a.", api.MX), 400)
}
