package cache_test

import (
	"fmt"
	"math"
	"strings"
	"testing"

	"freshet/api"
	"freshet/cache"
	"freshet/record"
)

func TestNew(t *testing.T) {
	caps := []int{1, 2, 3600, 1<<31 - 1, 1 << 31}
	none := []int{0, -1, 1<<31 + 1, 1 << 32, 1<<32 + 1, 1 << 40, math.MaxInt, math.MinInt, -1 << 31}
	for _, budget := range []int{2048, 2049, 5000, 1 << 20} {
		for _, ok := range caps {
			c := made(t, budget, ok, 7)
			rooms(t, "P13.1 nothing is known", c, 0, 0, budget)
			made(t, budget, 7, ok)
			made(t, budget, ok, ok)
			for _, no := range none {
				refused(t, budget, ok, no)
				refused(t, budget, no, ok)
				refused(t, budget, no, no)
			}
		}
	}
	for _, budget := range []int{2047, 1<<20 + 1, 0, 1, 1024, -1, -2048, 1<<32 + 2048, math.MaxInt, math.MinInt} {
		refused(t, budget, 1, 1)
		refused(t, budget, 1<<31, 1<<31)
		refused(t, budget, 0, 1<<31+1)
	}
}

// refused holds that there is no such cache.
func refused(t *testing.T, budget, ttlcap, negcap int) {
	t.Helper()
	c, e := cache.New(budget, ttlcap, negcap)
	if c != nil || e != api.ErrArg {
		t.Errorf("P13.1 New(%d, %d, %d): got %v %d", budget, ttlcap, negcap, c, e)
	}
}

func TestPut(t *testing.T) {
	c := made(t, 8192, 100, 10)
	for i, x := range []struct {
		set        api.Set
		rank, left int
		clipped    int
	}{
		{addrs("Www.A.", 1, 2), 4, 60, 60},
		{addrs("a.", 3), 0, 100, 100},
		{servers("A.", "Ns.a.", "ns.B."), 1, 101, 100},
		{set("www.a.", api.MX, "AB"+n("Mail.A.")), 2, 1, 1},
		{set("b.", api.TXT, "\x02Ab"), 3, math.MaxInt, 100},
		{big("B.", 300), 9, 99, 99},
		{noType("www.A.", api.AAAA), 3, 9, 9},
		{noType("a.", 254), 5, 10, 10},
		{noType("a.", 256), 6, 11, 10},
		{noName("No.a."), 7, 1, 1},
		{noName("a."), 8, 10, 10},
		{noName("."), 3, math.MaxInt, 10},
	} {
		what := fmt.Sprintf("P13.1 set %d", i)
		now := 1000 * i
		puts(t, what, c, x.set, x.rank, x.left, now, x.clipped)
		stands(t, what, c, x.set, x.rank, now, now+x.clipped, 0)
		is(t, what+": Count", c.Store().Count(), i+1)
		k := x.set.Key
		k.Name = strings.ToUpper(k.Name)
		finds(t, what+", its name in great letters", c, k, now, x.set, x.clipped, x.rank)
		finds(t, what+", its last time", c, k, now+x.clipped-1, x.set, 1, x.rank)
		findsNone(t, what+", its expiry", c, k, now+x.clipped)
	}
	went(t, "P13.1 there was room", c, "")
}

// No such name is of type None, and nothing else is.
func TestPutKinds(t *testing.T) {
	c := made(t, 8192, 100, 10)
	for _, kind := range []int{0, 1, 3, -1, -2, 4, 255, 1<<32 + 2, math.MinInt, math.MaxInt} {
		for _, x := range []api.Set{noName("a."), of(big("a.", 9), 255), of(tooLong("a."), 255)} {
			x.Kind = kind
			put(t, fmt.Sprintf("P13.1 Kind %d of type None", kind), c, x, 4, 5, 0, api.ErrArg)
			put(t, fmt.Sprintf("P13.1 Kind %d of type None, of a nil one", kind), nil, x, 4, 5, 0, api.ErrArg)
		}
	}
	for _, other := range []int{1, 2, 5, txt, 254, 256, 65535, 0, -1, 65536, 255 + 1<<16, 255 + 1<<32, -255, math.MinInt, math.MaxInt} {
		put(t, fmt.Sprintf("P13.1 Kind 2 of type %d", other), c, of(noName("a."), other), 4, 5, 0, api.ErrArg)
		put(t, fmt.Sprintf("P13.1 Kind 2 of type %d, of a nil one", other), nil, of(noName("a."), other), 4, 5, 0, api.ErrArg)
	}
	rooms(t, "P13.1 behind ErrArg", c, 0, 0, 8192)
	// With an item there that is better, it is ErrArg all the same.
	puts(t, "P13.1", c, noName("a."), 4, 5, 0, 5)
	puts(t, "P13.1", c, addrs("a.", 1), 4, 5, 0, 5)
	put(t, "P13.1 the kind goes first", c, noType("a.", 255), 3, 5, 0, api.ErrArg)
	put(t, "P13.1 the kind goes first", c, of(noName("a."), 1), 3, 5, 0, api.ErrArg)
	is(t, "P13.1 None", cache.None, 255)
}

// How long it holds: the caps' edges, and times that are none.
func TestPutLeft(t *testing.T) {
	kinds := []api.Set{addrs("a.", 1), noType("a.", api.A), noName("a.")}
	for _, caps := range [][2]int{{1, 1}, {100, 10}, {10, 100}, {1 << 31, 1 << 31}, {1, 1 << 31}, {1 << 31, 1}} {
		for i, x := range kinds {
			most := caps[min(i, 1)]
			for _, left := range []int{1, 2, 9, 10, 11, 99, 100, 101, 1<<31 - 1, 1 << 31, 1<<31 + 1, 1 << 40, math.MaxInt} {
				c := made(t, 2048, caps[0], caps[1])
				puts(t, fmt.Sprintf("P13.1 %v, Kind %d", caps, i), c, x, 3, left, 50, min(left, most))
				stands(t, fmt.Sprintf("P13.1 %v, Kind %d", caps, i), c, x, 3, 50, 50+min(left, most), 0)
			}
			c := made(t, 2048, caps[0], caps[1])
			puts(t, "P13.1", c, x, 3, 1, 50, 1)
			for _, left := range []int{0, -1, -2, -1 << 31, -1 << 40, math.MinInt, math.MinInt + 1} {
				for _, c := range []*cache.Cache{c, nil} {
					put(t, "P13.1 no time", c, x, 4, left, 50, api.ErrArg)
					put(t, "P13.1 no time goes ahead of whom to believe", c, x, 2, left, 50, api.ErrArg)
					put(t, "P13.1 no time goes ahead of 10's", c, tooLong("b."), 3, left, 50, api.ErrArg)
				}
			}
			stands(t, "P13.1 behind ErrArg", c, x, 3, 50, 51, 0)
			is(t, "P13.1 behind ErrArg: Count", c.Store().Count(), 1)
		}
	}
}

// When it comes: no time wraps round, or is behind the last one.
func TestPutNow(t *testing.T) {
	c := small(t)
	x := addrs("a.", 1)
	puts(t, "P13.1 at the first time", c, x, 3, 5, 0, 5)
	puts(t, "P13.1", c, x, 3, 1<<31, 1<<40-1<<31, 1<<31)
	for _, now := range []int{1<<40 - 1<<31 + 1, 1<<40 - 2, 1<<40 - 1} {
		puts(t, "P13.1 up to the last time", c, x, 3, 1<<31, now, 1<<40-now)
		stands(t, "P13.1 up to the last time", c, x, 3, now, 1<<40, 0)
	}
	for _, now := range append(beyond(), 1<<40) {
		for _, left := range []int{1, 5, 1 << 31, math.MaxInt} {
			put(t, "P13.1 no time that may be", c, x, 3, left, now, api.ErrArg)
			put(t, "P13.1 no time that may be, of a nil one", nil, x, 3, left, now, api.ErrArg)
		}
	}
	stands(t, "P13.1 behind ErrArg", c, x, 3, 1<<40-1, 1<<40, 0)
	puts(t, "P13.1 time goes back", c, x, 3, 7, 2, 7)
}

// Who is believed less does not take the place of what is there, until it is over.
func TestPutBetter(t *testing.T) {
	for elder := range 10 {
		for rank := range 10 {
			for _, x := range []api.Set{addrs("A.", 1), noType("A.", api.A), noName("A.")} {
				betters(t, x, elder, rank)
			}
		}
	}
	// What it says is nothing to it.
	c := small(t)
	for i, x := range []api.Set{addrs("a.", 1), noType("a.", api.A), addrs("A.", 2, 3), noType("A.", api.A)} {
		puts(t, "P13.1 whatever it says", c, x, i, 9, 0, 9)
	}
	put(t, "P13.1 whatever it says", c, addrs("a.", 1), 2, 9, 0, api.ErrNone)
	// Other types and names are nothing to it, None neither.
	puts(t, "P13.1 another type", c, noName("a."), 0, 9, 0, 9)
	puts(t, "P13.1 another type", c, noType("a.", txt), 0, 9, 0, 9)
	puts(t, "P13.1 another name", c, addrs("b.a.", 1), 0, 9, 0, 9)
	puts(t, "P13.1 no such name, better", c, noName("b."), 9, 9, 0, 9)
	puts(t, "P13.1 no such name is of its own type", c, addrs("b.", 1), 0, 9, 0, 9)
}

// betters puts a set of a rank where it is already, of another rank.
func betters(t *testing.T, x api.Set, elder, rank int) {
	t.Helper()
	what := fmt.Sprintf("P13.1 rank %d where %d is", rank, elder)
	again := folded(x)
	again.Zone = n("Other.")
	for _, now := range []int{10, 29, 5, 0} {
		c := small(t)
		puts(t, what, c, x, elder, 20, 10, 20)
		if rank < elder {
			put(t, what, c, again, rank, 50, now, api.ErrNone)
			stands(t, what, c, x, elder, 10, 30, 0)
		} else {
			puts(t, what, c, again, rank, 50, now, 50)
			stands(t, what, c, again, rank, now, now+50, 0)
		}
	}
	for _, now := range []int{30, 31, 1 << 39} {
		c := small(t)
		puts(t, what, c, x, elder, 20, 10, 20)
		puts(t, what+", over", c, again, rank, 50, now, 50)
		stands(t, what+", over", c, again, rank, now, now+50, 0)
	}
}

// ErrNone goes ahead of all that 10's Put looks for, and changes nothing.
func TestPutErrNone(t *testing.T) {
	c := small(t)
	letters(t, c, "abc")
	x := big("b.", 100)
	for _, y := range []api.Set{x, big("B.", 5), big("b.", 1001), tooLong("b."), tooBig("b."), set("b.", txt), {Key: x.Key, Kind: 1}, {Key: x.Key, Kind: 7}} {
		for _, rank := range []int{0, -1, math.MinInt} {
			for _, now := range []int{0, 999, -1, math.MinInt} {
				put(t, "P13.1 what is there is better", c, y, rank, 5, now, api.ErrNone)
			}
		}
	}
	is(t, "P10.2 Pin", c.Store().Pin(x.Key), api.OK)
	put(t, "P13.1 what is there is better, and pinned", c, x, 0, 5, 0, api.ErrNone)
	put(t, "P13.1 what is there is pinned", c, x, 1, 5, 0, api.ErrPinned)
	stands(t, "P13.1 behind errors", c, x, 1, 0, 1000, 1)
	is(t, "P10.2 Unpin", c.Store().Unpin(x.Key), api.OK)
	rooms(t, "P13.1 behind errors", c, 3, 32+3*160, 2048-32-3*160)
	went(t, "P13.1 behind errors", c, "")
	inOrder(t, "P13.1 behind errors", c, 0, "a b c")
}

// The errors of 10's Put.
func TestPutErrors(t *testing.T) {
	c := small(t)
	letters(t, c, "abc")
	mayNotBe := addrs("x.", 1)
	mayNotBe.RRs[0].Data = "abc"
	for _, c := range []*cache.Cache{c, nil} {
		put(t, "P13.1 what may not be", c, mayNotBe, 3, 5, 0, api.ErrArg)
		put(t, "P13.1 nothing", c, api.Set{}, 3, 5, 0, api.ErrArg)
		put(t, "P13.1 no records", c, set("x.", 1), 3, 5, 0, api.ErrArg)
		put(t, "P13.1 no kind", c, api.Set{Key: key("x.", 1), Kind: 3, Zone: n(".")}, 3, 5, 0, api.ErrArg)
		put(t, "P13.1 no such name, with a record", c, api.Set{Key: key("x.", 255), Kind: 2, Zone: n("."), RRs: of(big("x.", 1), 255).RRs}, 3, 5, 0, api.ErrArg)
		put(t, "P13.1 no name", c, api.Set{Key: api.Key{Name: "x", Type: 255}, Kind: 2, Zone: n(".")}, 3, 5, 0, api.ErrArg)
		put(t, "P13.1 no zone", c, api.Set{Key: key("x.", 1), Kind: 1}, 3, 5, 0, api.ErrArg)
		put(t, "P13.1 too much", c, tooLong("x."), 3, 5, 0, api.ErrBig)
		put(t, "P13.1 too much, and no rank", c, tooLong("x."), 10, 5, -1, api.ErrBig)
		for _, rank := range []int{-1, 10, math.MinInt, math.MaxInt} {
			put(t, "P13.1 no rank", c, addrs("x.", 1), rank, 5, 0, api.ErrArg)
		}
	}
	put(t, "P13.1 a rank that is none, where something is", c, big("a.", 1), 10, 5, 0, api.ErrArg)
	is(t, "P10.2 Pin", c.Store().Pin(key("b.", txt)), api.OK)
	put(t, "P13.1 pinned", c, big("B.", 1), 3, 5, 0, api.ErrPinned)
	put(t, "P13.1 pinned, and over", c, big("B.", 1), 0, 5, 1000, api.ErrPinned)
	rooms(t, "P13.1 behind errors", c, 3, 32+3*160, 2048-32-3*160)
	went(t, "P13.1 behind errors", c, "")
	put(t, "P13.1 no room", c, tooBig("x."), 3, 5, 0, api.ErrFull)
	went(t, "P13.1 what was evicted stays so", c, "a c")
	rooms(t, "P13.1 no room", c, 1, 192, 1856)
	// Who is better takes its place even if there is no room then: the elder one is gone.
	is(t, "P10.2 Unpin", c.Store().Unpin(key("b.", txt)), api.OK)
	put(t, "P13.1 no room", c, tooBig("b."), 1, 5, 0, api.ErrFull)
	findsNone(t, "P13.1 the elder one is gone", c, key("b.", txt), 0)
	rooms(t, "P13.1 no room", c, 0, 0, 2048)
}

// Who is over goes first, then who was not used for longest.
func TestPutEvicts(t *testing.T) {
	c := small(t)
	for i, l := range "abcdefghijkl" {
		puts(t, "P13.1", c, big(string(l)+".", 100), 1, 100-2*i, i, 100-2*i)
	}
	puts(t, "P13.1 nobody is over", c, big("x.", 100), 1, 9, 88, 9)
	went(t, "P13.1 nobody is over", c, "a")
	puts(t, "P13.1 one is over", c, big("y.", 100), 1, 9, 89, 9)
	went(t, "P13.1 one is over", c, "l")
	is(t, "P13.2 Use", c.Use(key("B.", txt), 89), true)
	puts(t, "P13.1 two are gone", c, big("z.", 220), 1, 9, 89, 9)
	went(t, "P13.1 one was used", c, "c d")
}

func TestClip(t *testing.T) {
	for _, caps := range [][2]int{{100, 10}, {10, 100}, {1, 1 << 31}, {1 << 31, 1}} {
		c := made(t, 2048, caps[0], caps[1])
		for _, kind := range []int{0, 1, 2, 3, 9, -1, 255, 1 << 32, math.MinInt, math.MaxInt} {
			most := caps[1]
			if kind == 0 {
				most = caps[0]
			}
			for _, left := range []int{math.MinInt, -1, 0, 1, 2, 9, 10, 11, 50, 99, 100, 101, 1<<31 - 1, 1 << 31, 1<<31 + 1, 1 << 40, math.MaxInt} {
				is(t, fmt.Sprintf("P13.2 %v: Clip(%d, %d)", caps, kind, left), c.Clip(kind, left), max(0, min(left, most)))
			}
		}
		rooms(t, "P13.2 Clip changes nothing", c, 0, 0, 2048)
	}
}

// What a record says of its own time is nothing to Put.
func TestPutTTL(t *testing.T) {
	c := made(t, 2048, 100, 10)
	x := api.Set{Key: key("a.", api.A), RRs: []api.RR{record.MakeA(n("a."), 7, 1)}, Zone: n(".")}
	put(t, "P13.1 with a TTL", c, x, 3, 50, 0, api.OK)
	finds(t, "P13.1 with a TTL", c, x.Key, 20, addrs("a.", 1), 30, 3)
}
