package store_test

import (
	"fmt"
	"math"
	"strings"
	"testing"

	"freshet/api"
	"freshet/store"
)

// full is a store of 2048 bytes with twelve sets: a. to l., who came one by one, and are over in that order backwards, from 89 on.
func full(t *testing.T) *store.Store {
	t.Helper()
	s := made(t, 2048)
	for i, c := range "abcdefghijkl" {
		puts(t, "P10.1", s, big(string(c)+".", 100), 1, i, 100-i)
	}
	rooms(t, "P10.1 full", s, 12, 1952, 96)
	return s
}

func TestEvict(t *testing.T) {
	s := full(t)
	puts(t, "P10.1 nobody is over", s, big("x.", 100), 1, 88, 200)
	went(t, "P10.1 nobody is over: the oldest one", s, "a")
	puts(t, "P10.1 one is over", s, big("y.", 100), 1, 89, 200)
	went(t, "P10.1 one is over", s, "l")
	puts(t, "P10.1 three are over, one is enough", s, big("z.", 100), 1, 92, 200)
	went(t, "P10.1 three are over, one is enough", s, "k")
	puts(t, "P10.1 there is room", s, big("s.", 24), 1, 92, 200)
	went(t, "P10.1 there is room", s, "")
	rooms(t, "P10.1 to the last byte", s, 13, 2048, 0)
	puts(t, "P10.1 no room", s, nothing("a.", 1), 1, 92, 200)
	went(t, "P10.1 who is over goes first", s, "j")
	puts(t, "P10.1 those that are over, then the others", s, big("w.", 700), 1, 93, 200)
	went(t, "P10.1 those that are over, then the others", s, "i h b c d e")
	is(t, "P10.2 Items", walked(s.Items(), -1), "a f g s w x y z")
}

// A set that fits takes nobody's place, whoever is over.
func TestEvictNobody(t *testing.T) {
	s := made(t, 2048)
	letters(t, s, "abcdefghijk")
	puts(t, "P10.1 all are over", s, big("l.", 100), 1, 1<<40-1, 1<<40)
	rooms(t, "P10.1 all are over", s, 12, 1952, 96)
	puts(t, "P10.1 what fits to the last byte", s, big("m.", 38), 1, 1<<40-1, 1<<40)
	rooms(t, "P10.1 what fits to the last byte", s, 13, 2048, 0)
	went(t, "P10.1 what fits to the last byte", s, "")
	puts(t, "P10.1 nothing is left", s, nothing("n.", 1), 1, 1<<40-1, 1<<40)
	went(t, "P10.1 nothing is left", s, "a")
	// One byte less than it takes is not enough.
	for budget, want := range map[int]string{2048 + 63: "a", 2048 + 64: ""} {
		s = made(t, budget)
		letters(t, s, "abcdefghijkl")
		puts(t, "P10.1", s, big("m.", 38), 1, 0, 1000)
		puts(t, "P10.1", s, nothing("n.", 1), 1, 0, 1000)
		went(t, fmt.Sprintf("P10.1 of %d bytes", budget), s, want)
	}
}

// Those that are over go by their time, of one time as they were put.
func TestEvictByTime(t *testing.T) {
	s := made(t, 2048)
	for i, k := range []string{"a.", "b.", "c.", "d.", "e.", "f."} {
		puts(t, "P10.1", s, big(k, 100), 1, 0, []int{7, 5, 7, 9, 5, 7}[i])
	}
	puts(t, "P10.1 again", s, big("a.", 100), 1, 0, 7)
	gets(t, "P10.2 used", s, key("b.", txt), 0)
	inOrder(t, "P10.1 at 0 nobody is over", s, 0, "c d e f a b")
	for i, k := range []string{"a.", "b.", "c.", "d.", "e.", "f."} {
		puts(t, "P10.1", s, big(k, 100), 1, 0, []int{7, 5, 7, 9, 5, 7}[i])
	}
	puts(t, "P10.1 again", s, big("a.", 100), 1, 0, 7)
	gets(t, "P10.2 used", s, key("b.", txt), 0)
	gets(t, "P10.2 used", s, key("d.", txt), 0)
	inOrder(t, "P10.1 at 7", s, 7, "b e c f a d")
}

func TestEvictPinned(t *testing.T) {
	s := full(t)
	for _, k := range []string{"a.", "b.", "l.", "j."} {
		pins(t, s, key(k, txt), 2)
		is(t, "P10.2", s.Unpin(key(k, txt)), api.OK)
	}
	puts(t, "P10.1 none of those that are over may go", s, big("x.", 100), 1, 89, 200)
	went(t, "P10.1 none of those that are over may go", s, "c")
	puts(t, "P10.1 one of them may", s, big("y.", 100), 1, 91, 200)
	went(t, "P10.1 one of them may", s, "k")
	is(t, "P10.2 Sweep", []int{s.Sweep(91), s.Sweep(92)}, []int{0, 1})
	went(t, "P10.2 Sweep", s, "i")
	inOrder(t, "P10.1 all but those that are pinned", s, 88, "d e f g h x y")
	rooms(t, "P10.3 those that are pinned", s, 4, 32+4*160, 2048-32-4*160)
	refused(t, "P10.1 nobody may go", s, tooBig("z."), 1, 500, 501, api.ErrFull)
	went(t, "P10.1 nobody may go", s, "")
	is(t, "P10.3 those that are pinned", walked(s.Items(), -1), "a b j l")
	// As soon as they aren't, they may, in their places.
	letters(t, s, "c")
	for _, k := range []string{"l.", "b.", "a."} {
		is(t, "P10.2", s.Unpin(key(k, txt)), api.OK)
	}
	inOrder(t, "P10.1 not pinned any more", s, 88, "a b l c")
	has(t, "P10.3 pinned yet", s, store.Item{Set: big("j.", 100), Rank: 1, Came: 9, Expiry: 91, Pins: 1})
}

// What goes takes its names along: a set that needs one of them costs more then.
func TestEvictNames(t *testing.T) {
	s := made(t, 2048)
	long := strings.Repeat("l", 63) + "." + strings.Repeat("m", 63) + "." // 129 bytes: a block of 256
	puts(t, "P10.1", s, nothing(long, 1), 1, 0, 1000)
	letters(t, s, "abcdefghij")
	rooms(t, "P10.1", s, 11, 32+256+32+10*160, 2048-1920)
	// 128 bytes more are left: with the name there this takes 256, without it 512.
	puts(t, "P10.1", s, set(long, txt, strings.Repeat("x", 200)), 1, 0, 1000)
	went(t, "P10.1 the name goes, too", s, told([]api.Key{key(long, 1)})+" a")
	rooms(t, "P10.1 the name goes, too", s, 10, 32+512+9*160, 2048-32-512-9*160)
	// Names that others use stay.
	s = made(t, 2048)
	puts(t, "P10.1", s, nothing(long, 1), 1, 0, 1000)
	puts(t, "P10.1", s, nothing(long, 2), 1, 0, 1000)
	letters(t, s, "abcdefghij")
	rooms(t, "P10.1", s, 12, 32+256+64+10*160, 2048-1952)
	puts(t, "P10.1", s, set(long, txt, strings.Repeat("x", 100)), 1, 0, 1000)
	went(t, "P10.1 the name stays", s, told([]api.Key{key(long, 1)}))
	rooms(t, "P10.1 the name stays", s, 12, 2048, 0)
}

func TestErrFull(t *testing.T) {
	s := full(t)
	pins(t, s, key("c.", txt), 1)
	refused(t, "P10.1 too much for any room", s, tooBig("x."), 1, 90, 91, api.ErrFull)
	went(t, "P10.1 what was evicted stays so", s, "l k a b d e f g h i j")
	hasNone(t, "P10.1", s, key("x.", txt))
	rooms(t, "P10.1", s, 1, 192, 1856)
	puts(t, "P10.1 what there is room for", s, big("y.", 998), 1, 90, 91)
	refused(t, "P10.1 too much beside what is pinned", s, set("z.", txt, strings.Repeat("x", 900), strings.Repeat("x", 900)), 1, 90, 91, api.ErrFull)
	went(t, "P10.1", s, "y")
	rooms(t, "P10.1", s, 1, 192, 1856)
	// Nobody at all.
	s = made(t, 2048)
	refused(t, "P10.1 too much for any room", s, tooBig("x."), 1, 0, 1, api.ErrFull)
	went(t, "P10.1 nobody", s, "")
	rooms(t, "P10.1 nobody", s, 0, 0, 2048)
}

// How many may be protected: one for 512 bytes of the budget, cut.
func TestProtected(t *testing.T) {
	for _, budget := range []int{2048, 2559, 2560, 3071, 3072, 4095, 4096} {
		s := made(t, budget)
		most := budget / 512
		var used, then []string
		for i := range most + 3 {
			k := fmt.Sprintf("%c.", 'a'+i)
			puts(t, "P10.1", s, nothing(k, 1), 1, 0, 1000)
			used = append(used, k[:1])
		}
		for _, k := range used {
			gets(t, "P10.2", s, key(k+".", 1), 0)
		}
		puts(t, "P10.1", s, nothing("new.", 1), 1, 0, 1000)
		then = append(then, used[:3]...)
		then = append(then, "new")
		then = append(then, used[3:]...)
		// All go, one after the other.
		d := strings.Repeat("x", 1000)
		refused(t, "P10.1", s, set("y.", txt, d, d, d, d), 1, 1, 2, api.ErrFull)
		went(t, fmt.Sprintf("P10.2 %d may be protected", most), s, strings.Join(then, " "))
	}
}

func TestSweep(t *testing.T) {
	s := made(t, 2048)
	for i, k := range []string{"a.", "b.", "c.", "d.", "e.", "f."} {
		puts(t, "P10.1", s, big(k, 100), 1, 0, []int{7, 5, 7, 1 << 40, 5, 1}[i])
	}
	pins(t, s, key("b.", txt), 1)
	is(t, "P10.2 Sweep of none", []int{s.Sweep(0), s.Sweep(-1), s.Sweep(math.MinInt)}, []int{0, 0, 0})
	is(t, "P10.2 Sweep", []int{s.Sweep(1), s.Sweep(4)}, []int{1, 0})
	went(t, "P10.2 Sweep", s, "f")
	is(t, "P10.2 Sweep", s.Sweep(7), 3)
	went(t, "P10.2 Sweep", s, "e a c")
	is(t, "P10.2 Items", walked(s.Items(), -1), "b d")
	is(t, "P10.2 Sweep", []int{s.Sweep(1<<40 - 1), s.Sweep(1 << 40)}, []int{0, 1})
	is(t, "P10.2", s.Unpin(key("b.", txt)), api.OK)
	is(t, "P10.2 Sweep", []int{s.Sweep(4), s.Sweep(math.MaxInt), s.Sweep(math.MaxInt)}, []int{0, 1, 0})
	went(t, "P10.2 Sweep", s, "d b")
	rooms(t, "P10.3 all gone", s, 0, 0, 2048)
}

// As many as there may be, and as many again.
func TestMany(t *testing.T) {
	s := made(t, 1<<20)
	put := func(i, now int) {
		if e := s.Put(nothing(fmt.Sprintf("%x.", i), 1), 1, now, now+1000); e != api.OK {
			t.Fatalf("P10.1 number %d: %d", i, e)
		}
	}
	const most = (1<<20 - 32) / 64
	for i := range most {
		put(i, 0)
	}
	rooms(t, "P10.1 as many as there may be", s, most, 1<<20-32, 32)
	for i := range most {
		put(most+i, 1)
	}
	l := s.Evicted()
	for i, k := range l {
		if k != key(fmt.Sprintf("%x.", i), 1) {
			t.Fatalf("P10.1 number %d of those that went: %q", i, k.Name)
		}
	}
	is(t, "P10.1 as many again", []int{len(l), s.Count(), len(strings.Fields(walked(s.Items(), -1)))}, []int{most, most, most})
	is(t, "P10.2 Sweep of all", []int{s.Sweep(1001), s.Count(), s.Left()}, []int{most, 0, 1 << 20})
}
