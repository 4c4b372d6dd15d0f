package arena_test

import (
	"bytes"
	"fmt"
	"math"
	"testing"

	"freshet/api"
	"freshet/arena"
)

// is compares what was told.
func is(t *testing.T, what string, got, want any) {
	t.Helper()
	if fmt.Sprintf("%T%#v", got, got) != fmt.Sprintf("%T%#v", want, want) {
		t.Errorf("%s:\n got %#v\nwant %#v", what, got, want)
	}
}

// far are numbers that are no handle, no place and no size anywhere.
func far() []int {
	return []int{-1, -2, -16, math.MinInt, math.MinInt + 1, math.MaxInt, math.MaxInt - 7, math.MaxInt - 8, 1 << 20, 1<<20 + 1, 1 << 31, 1 << 32, 1<<32 + 1, -1 << 32}
}

// made is an arena of so many bytes.
func made(t *testing.T, budget int) *arena.Arena {
	t.Helper()
	a, e := arena.New(budget)
	if a == nil || e != api.OK {
		t.Fatalf("P6.1 New(%d): %v %d", budget, a, e)
	}
	return a
}

// gets holds that a block of n bytes is to be had, under that handle.
func gets(t *testing.T, what string, a *arena.Arena, n, want int) {
	t.Helper()
	h, e := a.Alloc(n)
	if h != want || e != api.OK {
		t.Fatalf("%s: Alloc(%d): got %d %d, want %d", what, n, h, e, want)
	}
}

// refused holds that a block of n bytes is not to be had.
func refused(t *testing.T, what string, a *arena.Arena, n int, want api.Errno) {
	t.Helper()
	h, e := a.Alloc(n)
	if h != 0 || e != want {
		t.Fatalf("%s: Alloc(%d): got %d %d, want 0 %d", what, n, h, e, want)
	}
}

// frees gives handles back.
func frees(t *testing.T, a *arena.Arena, handles ...int) {
	t.Helper()
	for _, h := range handles {
		is(t, fmt.Sprintf("P6.1 Free(%d)", h), a.Free(h), api.OK)
	}
}

// rooms holds what is used and left.
func rooms(t *testing.T, what string, a *arena.Arena, used, left int) {
	t.Helper()
	is(t, what+": Used, Left, Budget", []int{a.Used(), a.Left(), a.Budget()}, []int{used, left, used + left})
}

// fills writes a block full of bytes that hang on the seed.
func fills(t *testing.T, a *arena.Arena, h, seed int) {
	t.Helper()
	n, _ := a.Size(h)
	is(t, fmt.Sprintf("P6.2 Write of all of block %d", h), a.Write(h, 0, filling(n, seed)), api.OK)
}

// filling is so many bytes that hang on the seed; none of them is 0.
func filling(n, seed int) []byte {
	b := make([]byte, n)
	for i := range b {
		b[i] = byte(1 + (seed*31+i*7)%255)
	}
	return b
}

// holds holds all bytes of a block, and that there are no more of them.
func holds(t *testing.T, what string, a *arena.Arena, h int, want []byte) {
	t.Helper()
	n, ok := a.Size(h)
	if n != len(want) || !ok {
		t.Fatalf("%s: Size(%d): got %d %v, want %d", what, h, n, ok, len(want))
	}
	b, e := a.Read(h, 0, n)
	if !bytes.Equal(b, want) || e != api.OK {
		t.Fatalf("%s: Read(%d, 0, %d):\n got %v %d\nwant %v", what, h, n, b, e, want)
	}
	if b, e = a.Read(h, 0, n+1); len(b) != 0 || e != api.ErrArg {
		t.Fatalf("%s: Read(%d, 0, %d): got %v %d", what, h, n+1, b, e)
	}
}

// none holds that a handle is no block's.
func none(t *testing.T, what string, a *arena.Arena, h int) {
	t.Helper()
	n, ok := a.Size(h)
	b, e := a.Read(h, 0, 0)
	got := []any{n, ok, len(b), e, a.Write(h, 0, nil), a.Free(h)}
	is(t, fmt.Sprintf("%s: Size, Read, Write, Free of %d", what, h), got, []any{0, false, 0, api.ErrNone, api.ErrNone, api.ErrNone})
}

// A pair is what a walk over Handles is told at once.
type pair struct{ h, n int }

// walked is what a walk is told, up to most of them.
func walked(walk func(yield func(h, n int) bool), most int) []pair {
	l := []pair{}
	for h, n := range walk {
		if l = append(l, pair{h, n}); len(l) == most {
			break
		}
	}
	return l
}
