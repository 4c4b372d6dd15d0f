package store_test

import (
	"fmt"
	"math"
	"strings"
	"testing"

	"freshet/api"
	"freshet/name"
	"freshet/store"
)

// is compares what was told.
func is(t *testing.T, what string, got, want any) {
	t.Helper()
	if fmt.Sprintf("%T%#v", got, got) != fmt.Sprintf("%T%#v", want, want) {
		t.Errorf("%s:\n got %#v\nwant %#v", what, got, want)
	}
}

// n is the name of a text.
func n(s string) string {
	out, e := name.Parse(s)
	if e != api.OK {
		panic(s)
	}
	return out
}

// far are times that are beyond all others.
func far() []int {
	return []int{-1, -2, math.MinInt, math.MinInt + 1, math.MaxInt, 1<<40 + 1, 1 << 41, -1 << 40}
}

// txt is a type whose data may be anything.
const txt = 99

// key is a Key of that type.
func key(s string, of int) api.Key { return api.Key{Name: n(s), Type: of} }

// set is records of a name in the root's zone, data by data.
func set(s string, of int, data ...string) api.Set {
	x := api.Set{Key: key(s, of), Zone: name.Root}
	for _, d := range data {
		x.RRs = append(x.RRs, api.RR{Name: n(s), Type: of, Class: api.IN, Data: d})
	}
	return x
}

// big is a set of so many bytes of data: with 100 the block takes 128 bytes, the name, if it is a short one, 32 and the zone, once for all, 32.
func big(s string, size int) api.Set { return set(s, txt, strings.Repeat("x", size)) }

// nothing is that there are no records of a type.
func nothing(s string, of int) api.Set {
	return api.Set{Key: key(s, of), Kind: 1, Zone: name.Root}
}

// tooBig is a set for which a store of 2048 bytes has no room, whoever goes.
func tooBig(s string) api.Set {
	d := strings.Repeat("x", 1000)
	return set(s, txt, d, d, d)
}

// made is a store of so many bytes.
func made(t *testing.T, budget int) *store.Store {
	t.Helper()
	s, e := store.New(budget)
	if s == nil || e != api.OK {
		t.Fatalf("P10.1 New(%d): %v %d", budget, s, e)
	}
	return s
}

// puts holds that a set is put, and that its item is as it should be.
func puts(t *testing.T, what string, s *store.Store, x api.Set, rank, now, expiry int) {
	t.Helper()
	if e := s.Put(x, rank, now, expiry); e != api.OK {
		t.Fatalf("%s: Put: %d", what, e)
	}
	has(t, what, s, store.Item{Set: x, Rank: rank, Came: now, Expiry: expiry})
}

// letters puts sets of 100 bytes, each named by a letter, that came at 0 and hold long.
func letters(t *testing.T, s *store.Store, names string) {
	t.Helper()
	for _, c := range names {
		puts(t, "P10.1", s, big(string(c)+".", 100), 1, 0, 1000)
	}
}

// refused holds that a set is not put.
func refused(t *testing.T, what string, s *store.Store, x api.Set, rank, now, expiry int, want api.Errno) {
	t.Helper()
	is(t, fmt.Sprintf("%s: Put(.., %d, %d, %d)", what, rank, now, expiry), s.Put(x, rank, now, expiry), want)
}

// has holds that an item is there, its names folded.
func has(t *testing.T, what string, s *store.Store, want store.Item) {
	t.Helper()
	k := want.Set.Key
	want.Set = folded(want.Set)
	got, ok := s.Peek(k)
	is(t, what+": Peek", []any{got, ok}, []any{want, true})
}

// hasNone holds that no item of that Key is there, whatever is asked.
func hasNone(t *testing.T, what string, s *store.Store, k api.Key) {
	t.Helper()
	x, one := s.Peek(k)
	y, two := s.Get(k, math.MinInt)
	is(t, what+": Peek, Get", []any{x, one, y, two}, []any{store.Item{}, false, store.Item{}, false})
	is(t, what+": Drop, Pin, Unpin", []api.Errno{s.Drop(k), s.Pin(k), s.Unpin(k)}, []api.Errno{api.ErrNone, api.ErrNone, api.ErrNone})
}

// gets holds that an item is got at that time.
func gets(t *testing.T, what string, s *store.Store, k api.Key, now int) {
	t.Helper()
	want, _ := s.Peek(k)
	got, ok := s.Get(k, now)
	is(t, fmt.Sprintf("%s: Get at %d", what, now), []any{got, ok}, []any{want, true})
}

// over holds that an item is not got at that time, though it is there.
func over(t *testing.T, what string, s *store.Store, k api.Key, now int) {
	t.Helper()
	got, ok := s.Get(k, now)
	is(t, fmt.Sprintf("%s: Get at %d", what, now), []any{got, ok}, []any{store.Item{}, false})
	_, ok = s.Peek(k)
	is(t, what+": it is there", ok, true)
}

// pins pins an item so often.
func pins(t *testing.T, s *store.Store, k api.Key, times int) {
	t.Helper()
	for i := range times {
		is(t, fmt.Sprintf("P10.2 pin %d of %s", i, name.Text(k.Name)), s.Pin(k), api.OK)
	}
}

// told is the names of Keys, without the dots behind them.
func told(l []api.Key) string {
	var names []string
	for _, k := range l {
		names = append(names, strings.TrimSuffix(name.Text(k.Name), "."))
	}
	return strings.Join(names, " ")
}

// went holds who was evicted since the last ask.
func went(t *testing.T, what string, s *store.Store, want string) {
	t.Helper()
	is(t, what+": Evicted", told(s.Evicted()), want)
	is(t, what+": Evicted, asked again", len(s.Evicted()), 0)
}

// rooms holds how many items there are, and what is used.
func rooms(t *testing.T, what string, s *store.Store, count, used, left int) {
	t.Helper()
	is(t, what+": Count, Used, Left", []int{s.Count(), s.Used(), s.Left()}, []int{count, used, left})
}

// walked is the names that a walk over items tells, stopped behind so many (of -1: never).
func walked(walk func(yield func(store.Item) bool), most int) string {
	var l []api.Key
	for x := range walk {
		l = append(l, x.Set.Key)
		if len(l) == most {
			break
		}
	}
	return told(l)
}

// inOrder holds who would go first at that time, of all that are not pinned; it leaves none of them there. (Of a store of 2048 bytes.)
func inOrder(t *testing.T, what string, s *store.Store, now int, want string) {
	t.Helper()
	s.Evicted()
	refused(t, what, s, tooBig("too-big."), 0, now, now+1, api.ErrFull)
	went(t, what, s, want)
}
