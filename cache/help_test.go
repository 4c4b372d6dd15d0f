package cache_test

import (
	"fmt"
	"math"
	"slices"
	"strings"
	"testing"

	"freshet/api"
	"freshet/cache"
	"freshet/name"
	"freshet/record"
	"freshet/store"
)

// is compares what was told.
func is(t *testing.T, what string, got, want any) {
	t.Helper()
	if fmt.Sprintf("%T%#v", got, got) != fmt.Sprintf("%T%#v", want, want) {
		t.Errorf("%s:\n got %#v\nwant %#v", what, got, want)
	}
}

// n is the name of a text.
func n(s string) string {
	out, e := name.Parse(s)
	if e != api.OK {
		panic(s)
	}
	return out
}

// txt is a type whose data may be anything.
const txt = 99

// beyond are numbers of no time that may be.
func beyond() []int {
	return []int{-1, -2, math.MinInt, math.MinInt + 1, 1<<40 + 1, 1 << 41, math.MaxInt - 1, math.MaxInt}
}

// key is a Key.
func key(s string, of int) api.Key { return api.Key{Name: n(s), Type: of} }

// set is records of a name in the root's zone, data by data.
func set(s string, of int, data ...string) api.Set {
	x := api.Set{Key: key(s, of), Zone: name.Root}
	for _, d := range data {
		x.RRs = append(x.RRs, api.RR{Name: n(s), Type: of, Class: api.IN, Data: d})
	}
	return x
}

// big is a set of so many bytes of data: with 100 it takes 160 bytes, if its name is a short one, and the zone, once for all, 32.
func big(s string, size int) api.Set { return set(s, txt, strings.Repeat("x", size)) }

// servers is a zone's NS set.
func servers(s string, targets ...string) api.Set {
	x := set(s, api.NS)
	for _, to := range targets {
		x.RRs = append(x.RRs, record.MakeName(n(s), api.NS, 0, n(to)))
	}
	return x
}

// addrs is a name's A set.
func addrs(s string, l ...int) api.Set {
	x := set(s, api.A)
	for _, addr := range l {
		x.RRs = append(x.RRs, record.MakeA(n(s), 0, addr))
	}
	return x
}

// noType is that there are no records of a type.
func noType(s string, of int) api.Set {
	return api.Set{Key: key(s, of), Kind: 1, Zone: name.Root}
}

// noName is that there is no such name.
func noName(s string) api.Set {
	return api.Set{Key: key(s, 255), Kind: 2, Zone: name.Root}
}

// of is a set under another type.
func of(x api.Set, other int) api.Set {
	x.Key.Type = other
	x.RRs = slices.Clone(x.RRs)
	for i := range x.RRs {
		x.RRs[i].Type = other
	}
	return x
}

// tooLong is a set of more bytes than a block has.
func tooLong(s string) api.Set {
	d := strings.Repeat("x", 1000)
	return set(s, txt, d, d, d, d, d)
}

// tooBig is a set for which a cache of 2048 bytes has no room, whoever goes.
func tooBig(s string) api.Set {
	d := strings.Repeat("x", 1000)
	return set(s, txt, d, d, d)
}

// folded is what is told of a set.
func folded(x api.Set) api.Set {
	x.Key.Name, x.Zone = name.Fold(x.Key.Name), name.Fold(x.Zone)
	x.RRs = slices.Clone(x.RRs)
	for i, r := range x.RRs {
		x.RRs[i] = record.Folded(r)
	}
	return x
}

// made is a cache.
func made(t *testing.T, budget, ttlcap, negcap int) *cache.Cache {
	t.Helper()
	c, e := cache.New(budget, ttlcap, negcap)
	if c == nil || e != api.OK {
		t.Fatalf("P13.1 New(%d, %d, %d): %v %d", budget, ttlcap, negcap, c, e)
	}
	return c
}

// small is a cache of 2048 bytes that clips nothing.
func small(t *testing.T) *cache.Cache {
	t.Helper()
	return made(t, 2048, 1<<31, 1<<31)
}

// put holds what Put tells.
func put(t *testing.T, what string, c *cache.Cache, x api.Set, rank, left, now int, want api.Errno) {
	t.Helper()
	is(t, fmt.Sprintf("%s: Put(.., %d, %d, %d)", what, rank, left, now), c.Put(x, rank, left, now), want)
}

// puts holds that something is learnt, and that it is found at once, with so much left.
func puts(t *testing.T, what string, c *cache.Cache, x api.Set, rank, left, now, clipped int) {
	t.Helper()
	put(t, what, c, x, rank, left, now, api.OK)
	finds(t, what, c, x.Key, now, x, clipped, rank)
}

// letters puts sets of 100 bytes, each named by a letter, that came at 0 and hold for 1000.
func letters(t *testing.T, c *cache.Cache, names string) {
	t.Helper()
	for _, l := range names {
		puts(t, "P13.1", c, big(string(l)+".", 100), 1, 1000, 0, 1000)
	}
}

// finds holds what is found.
func finds(t *testing.T, what string, c *cache.Cache, k api.Key, now int, want api.Set, left, rank int) {
	t.Helper()
	got, ok := c.Find(k, now)
	is(t, fmt.Sprintf("%s: Find(%q, %d, %d)", what, k.Name, k.Type, now), []any{got, ok}, []any{cache.Found{Set: folded(want), Left: left, Rank: rank}, true})
}

// findsNone holds that nothing is found.
func findsNone(t *testing.T, what string, c *cache.Cache, k api.Key, now int) {
	t.Helper()
	got, ok := c.Find(k, now)
	is(t, fmt.Sprintf("%s: Find(%q, %d, %d)", what, k.Name, k.Type, now), []any{got, ok}, []any{cache.Found{}, false})
}

// closest holds the closest zone's servers.
func closest(t *testing.T, what string, c *cache.Cache, of string, now int, want api.Set, left, rank int) {
	t.Helper()
	got, ok := c.Closest(of, now)
	is(t, fmt.Sprintf("%s: Closest(%q, %d)", what, of, now), []any{got, ok}, []any{cache.Found{Set: folded(want), Left: left, Rank: rank}, true})
}

// noneClosest holds that there is no zone.
func noneClosest(t *testing.T, what string, c *cache.Cache, of string, now int) {
	t.Helper()
	got, ok := c.Closest(of, now)
	is(t, fmt.Sprintf("%s: Closest(%q, %d)", what, of, now), []any{got, ok}, []any{cache.Found{}, false})
}

// numbers holds a name's addresses.
func numbers(t *testing.T, what string, c *cache.Cache, of string, now int, want ...int) {
	t.Helper()
	is(t, fmt.Sprintf("%s: Addrs(%q, %d)", what, of, now), append([]int{}, c.Addrs(of, now)...), append([]int{}, want...))
}

// stands holds an item of the cache's store.
func stands(t *testing.T, what string, c *cache.Cache, x api.Set, rank, came, expiry, pins int) {
	t.Helper()
	got, ok := c.Store().Peek(x.Key)
	is(t, what+": Peek", []any{got, ok}, []any{store.Item{Set: folded(x), Rank: rank, Came: came, Expiry: expiry, Pins: pins}, true})
}

// told is the names of Keys, without the dots behind them.
func told(l []api.Key) string {
	var names []string
	for _, k := range l {
		names = append(names, strings.TrimSuffix(name.Text(k.Name), "."))
	}
	return strings.Join(names, " ")
}

// went holds who was evicted since the last ask.
func went(t *testing.T, what string, c *cache.Cache, want string) {
	t.Helper()
	is(t, what+": Evicted", told(c.Store().Evicted()), want)
}

// inOrder holds who would go first; it leaves none of them there. (Of a cache of 2048 bytes, of sets that are not over yet.)
func inOrder(t *testing.T, what string, c *cache.Cache, now int, want string) {
	t.Helper()
	c.Store().Evicted()
	put(t, what, c, tooBig("too-big."), 0, 1, now, api.ErrFull)
	went(t, what, c, want)
}

// rooms holds how many items there are, and what is used.
func rooms(t *testing.T, what string, c *cache.Cache, count, used, left int) {
	t.Helper()
	s := c.Store()
	is(t, what+": Count, Used, Left", []int{s.Count(), s.Used(), s.Left()}, []int{count, used, left})
}
