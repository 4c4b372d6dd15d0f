package arena_test

import (
	"bytes"
	"fmt"
	"math"
	"testing"

	"freshet/api"
	"freshet/arena"
)

// three is an arena with three blocks side by side, the one between of ten bytes.
func three(t *testing.T) *arena.Arena {
	t.Helper()
	a := made(t, 1024)
	for h, n := range []int{24, 10, 24} {
		gets(t, "P6.1", a, n, h+1)
		fills(t, a, h+1, h+1)
	}
	return a
}

// around holds that the blocks beside the one between are as they were.
func around(t *testing.T, what string, a *arena.Arena) {
	t.Helper()
	holds(t, what, a, 1, filling(24, 1))
	holds(t, what, a, 3, filling(24, 3))
	rooms(t, what, a, 96, 928)
}

func TestRead(t *testing.T) {
	a := three(t)
	all := filling(10, 2)
	for at := -2; at <= 12; at++ {
		for n := -2; n <= 12; n++ {
			what := fmt.Sprintf("P6.2 Read(2, %d, %d)", at, n)
			b, e := a.Read(2, at, n)
			if at >= 0 && n >= 0 && at+n <= 10 {
				is(t, what, string(b), string(all[at:at+n]))
				is(t, what, e, api.OK)
			} else {
				is(t, what, len(b), 0)
				is(t, what, e, api.ErrArg)
			}
		}
	}
	for _, x := range append(far(), 11, 16, 24, 32) {
		for _, y := range append(far(), 0, 1, 10) {
			_, one := a.Read(2, x, y)
			_, two := a.Read(2, y, x)
			is(t, fmt.Sprintf("P6.2 Read of %d and %d", x, y), []api.Errno{one, two}, []api.Errno{api.ErrArg, api.ErrArg})
		}
	}
	around(t, "P6.2 Read", a)
}

func TestWrite(t *testing.T) {
	for at := -2; at <= 12; at++ {
		for n := 0; n <= 12; n++ {
			a := three(t)
			what := fmt.Sprintf("P6.2 Write of %d bytes at %d", n, at)
			want := filling(10, 2)
			e := a.Write(2, at, bytes.Repeat([]byte{0xff}, n))
			if at >= 0 && at+n <= 10 {
				copy(want[at:at+n], bytes.Repeat([]byte{0xff}, n))
				is(t, what, e, api.OK)
			} else {
				is(t, what, e, api.ErrArg)
			}
			holds(t, what, a, 2, want)
			around(t, what, a)
		}
	}
	a := three(t)
	for _, at := range append(far(), 11, 16, 24, 32) {
		is(t, fmt.Sprintf("P6.2 Write at %d", at), a.Write(2, at, []byte{1}), api.ErrArg)
		is(t, fmt.Sprintf("P6.2 Write of nothing at %d", at), a.Write(2, at, nil), api.ErrArg)
	}
	is(t, "P6.2 Write of much", a.Write(2, 0, make([]byte, 1<<20)), api.ErrArg)
	is(t, "P6.2 Write of much", a.Write(2, 9, make([]byte, 4096)), api.ErrArg)
	holds(t, "P6.2 behind ErrArg", a, 2, filling(10, 2))
	around(t, "P6.2 behind ErrArg", a)
}

// Of a handle that is no block's nothing else is asked.
func TestReadNone(t *testing.T) {
	a := three(t)
	frees(t, a, 2)
	for _, h := range append(far(), 0, 2, 4, 64, 65) {
		for _, at := range []int{0, 1, -1, 5000, math.MaxInt, math.MinInt} {
			b, e := a.Read(h, at, at)
			is(t, fmt.Sprintf("P6.2 Read(%d, %d, %d)", h, at, at), []any{len(b), e}, []any{0, api.ErrNone})
			is(t, fmt.Sprintf("P6.2 Write(%d, %d)", h, at), a.Write(h, at, []byte("abc")), api.ErrNone)
		}
	}
	holds(t, "P6.2 behind ErrNone", a, 1, filling(24, 1))
	holds(t, "P6.2 behind ErrNone", a, 3, filling(24, 3))
	rooms(t, "P6.2 behind ErrNone", a, 64, 960)
}

// A block's own bytes, and not those behind within what it takes.
func TestWithinBlock(t *testing.T) {
	a := made(t, 1<<15)
	for h, n := range []int{0, 1, 7, 8, 9, 23, 25, 4089, 4096} {
		gets(t, "P6.1", a, n, h+1)
		is(t, "P6.2 Write behind the end", a.Write(h+1, n, []byte{1}), api.ErrArg)
		is(t, "P6.2 Write over the end", a.Write(h+1, 0, make([]byte, n+1)), api.ErrArg)
		is(t, "P6.2 Write of nothing at the end", a.Write(h+1, n, []byte{}), api.OK)
		b, e := a.Read(h+1, n, 0)
		is(t, "P6.2 Read of nothing at the end", []any{len(b), e}, []any{0, api.OK})
		_, e = a.Read(h+1, n+1, 0)
		is(t, "P6.2 Read of nothing behind the end", e, api.ErrArg)
		holds(t, "P6.2 as it was", a, h+1, make([]byte, n))
	}
}

func TestMemory(t *testing.T) {
	a := three(t)
	b, _ := a.Read(2, 0, 10)
	again, _ := a.Read(2, 0, 10)
	few, _ := a.Read(2, 2, 3)
	nothing, _ := a.Read(2, 4, 0)
	// What is answered is changed, and its spare room.
	for _, l := range [][]byte{b, few, nothing} {
		clear(l[:cap(l)])
	}
	is(t, "P6.3 what was answered twice", string(again), string(filling(10, 2)))
	holds(t, "P6.3 what was answered", a, 2, filling(10, 2))
	around(t, "P6.3 what was answered", a)

	// What is handed in is not changed, its spare room neither.
	room := []byte("abcdefgh")
	is(t, "P6.2 Write", a.Write(2, 1, room[2:5]), api.OK)
	is(t, "P6.2 Write", a.Write(2, 9, room[2:5]), api.ErrArg)
	is(t, "P6.3 what was handed in", string(room), "abcdefgh")
	want := filling(10, 2)
	copy(want[1:], "cde")
	holds(t, "P6.2 Write", a, 2, want)
	// Nor kept: what becomes of it later is not told.
	clear(room)
	holds(t, "P6.3 what was handed in", a, 2, want)
	// What was answered stays as it was, whatever is written.
	b, _ = a.Read(2, 0, 10)
	fills(t, a, 2, 9)
	frees(t, a, 2)
	a.Compact()
	is(t, "P6.3 what was answered", string(b), string(want))
}

func TestApart(t *testing.T) {
	one, two := three(t), three(t)
	frees(t, one, 1, 3)
	fills(t, one, 2, 7)
	holds(t, "P6.3 another arena", two, 2, filling(10, 2))
	around(t, "P6.3 another arena", two)
	gets(t, "P6.1", one, 100, 1)
	gets(t, "P6.1", two, 100, 4)
}
