package arena_test

import (
	"fmt"
	"math/rand"
	"slices"
	"testing"

	"freshet/api"
	"freshet/arena"
)

// However the free bytes lie, they are there for one block.
func TestMoves(t *testing.T) {
	for _, c := range []struct {
		what string
		n    int                 // each block's
		goes func(h, l int) bool // which of them are freed
	}{
		{"every other one", 0, func(h, l int) bool { return h%2 == 0 }},
		{"the other ones", 8, func(h, l int) bool { return h%2 == 1 }},
		{"every other one", 24, func(h, l int) bool { return h%2 == 0 }},
		{"one of three", 120, func(h, l int) bool { return h%3 == 0 }},
		{"two of three", 24, func(h, l int) bool { return h%3 != 0 }},
		{"the first ones", 24, func(h, l int) bool { return h <= l/2 }},
		{"the last ones", 24, func(h, l int) bool { return h > l/2 }},
		{"the first and the last", 500, func(h, l int) bool { return h == 1 || h == l }},
		{"those between", 8, func(h, l int) bool { return h != 1 && h != l }},
		{"all", 56, func(h, l int) bool { return true }},
	} {
		for _, budget := range []int{2048, 2048 + 16, 4096 + 15, 10000} {
			for order := range 3 {
				moves(t, fmt.Sprintf("P6.1 %s of blocks of %d bytes in %d, order %d", c.what, c.n, budget, order), budget, c.n, order, c.goes)
			}
		}
	}
}

// moves fills an arena, frees some in one of three orders, and takes the greatest block that there is room for, as often as there is.
func moves(t *testing.T, what string, budget, n, order int, goes func(h, l int) bool) {
	a := made(t, budget)
	count := budget / costOf(n)
	var freed, stay []int
	for h := 1; h <= count; h++ {
		gets(t, what, a, n, h)
		fills(t, a, h, h)
		if goes(h, count) {
			freed = append(freed, h)
		} else {
			stay = append(stay, h)
		}
	}
	going := slices.Clone(freed)
	switch order {
	case 1:
		slices.Reverse(going)
	case 2:
		rand.New(rand.NewSource(3)).Shuffle(len(going), func(i, j int) { going[i], going[j] = going[j], going[i] })
	}
	frees(t, a, going...)
	for next := count + 1; a.Left() >= 16; {
		size := 4096
		for costOf(size) > a.Left() {
			size = max(size/2-8, 0)
		}
		h := next
		if len(freed) > 0 {
			h, freed = freed[0], freed[1:]
		} else {
			next++
		}
		left := a.Left()
		gets(t, what, a, size, h)
		holds(t, what, a, h, make([]byte, size))
		fills(t, a, h, 77)
		is(t, what+": what is left", a.Left(), left-costOf(size))
	}
	for _, h := range stay {
		holds(t, what, a, h, filling(n, h))
	}
	refused(t, what, a, 0, api.ErrFull)
}

func TestCompact(t *testing.T) {
	a := made(t, 2000)
	is(t, "P6.2 Compact of none", a.Compact(), 2000)
	for h := 1; h <= 60; h++ {
		gets(t, "P6.1", a, h%25, h)
		fills(t, a, h, h)
	}
	frees(t, a, 1, 60, 30, 31, 7, 9, 11, 29, 59)
	left := a.Left()
	for range 3 {
		is(t, "P6.2 Compact", a.Compact(), left)
		rooms(t, "P6.2 Compact", a, 2000-left, left)
		for h := 1; h <= 60; h++ {
			if slices.Contains([]int{1, 60, 30, 31, 7, 9, 11, 29, 59}, h) {
				none(t, "P6.2 Compact", a, h)
			} else {
				holds(t, "P6.2 Compact", a, h, filling(h%25, h))
			}
		}
	}
	gets(t, "P6.1 behind Compact", a, 100, 1)
	gets(t, "P6.1 behind Compact", a, 20, 7)
	holds(t, "P6.1 behind Compact", a, 1, make([]byte, 100))
	is(t, "P6.2 Compact", a.Compact(), left-128-32)
	is(t, "P6.2 Compact", a.Compact(), a.Left())
	for h := range a.Handles() {
		frees(t, a, h)
		is(t, "P6.2 Compact of fewer and fewer", a.Compact(), a.Left())
	}
	rooms(t, "P6.2 none left", a, 0, 2000)
	is(t, "P6.2 Compact of none", a.Compact(), 2000)
}

func TestHandles(t *testing.T) {
	a := made(t, 1<<13)
	walk := a.Handles()
	is(t, "P6.2 Handles of none", walked(walk, -1), []pair{})
	want := []pair{}
	for h := 1; h <= 200; h++ {
		gets(t, "P6.1", a, h%30, h)
		want = append(want, pair{h, h % 30})
	}
	is(t, "P6.2 Handles", walked(a.Handles(), -1), want)
	frees(t, a, 100, 200, 1, 64, 65, 3, 2, 128)
	want = slices.DeleteFunc(want, func(p pair) bool { return slices.Contains([]int{100, 200, 1, 64, 65, 3, 2, 128}, p.h) })
	walk = a.Handles()
	for range 2 {
		is(t, "P6.2 Handles, walked more than once", walked(walk, -1), want)
		for _, most := range []int{1, 2, 191, 192} {
			is(t, "P6.2 Handles, stopped", walked(walk, most), want[:most])
		}
	}
	a.Compact()
	is(t, "P6.2 Handles behind Compact", walked(walk, -1), want)
	// A walk within a walk, and each block gone when it was told.
	count := 0
	for h, n := range a.Handles() {
		is(t, "P6.2 Handles within Handles", walked(a.Handles(), 1), []pair{{h, n}})
		is(t, "P6.2 Handles, one by one", pair{h, n}, want[count])
		frees(t, a, h)
		count++
	}
	is(t, "P6.2 all of them", count, len(want))
	is(t, "P6.2 none are left", walked(a.Handles(), -1), []pair{})
}

func TestNil(t *testing.T) {
	var a *arena.Arena
	for _, n := range []int{0, 1, 8, 1000, 4096} {
		refused(t, "P6.3 a nil one", a, n, api.ErrFull)
	}
	for _, n := range append(far(), 4097) {
		refused(t, "P6.3 a nil one", a, n, api.ErrBig)
	}
	for _, h := range append(far(), 0, 1, 2) {
		none(t, "P6.3 a nil one", a, h)
		b, e := a.Read(h, -1, -1)
		is(t, "P6.3 a nil one", []any{len(b), e, a.Write(h, -1, []byte{1})}, []any{0, api.ErrNone, api.ErrNone})
	}
	rooms(t, "P6.3 a nil one", a, 0, 0)
	is(t, "P6.3 a nil one", a.Compact(), 0)
	is(t, "P6.3 a nil one", walked(a.Handles(), -1), []pair{})
}
