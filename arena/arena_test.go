package arena_test

import (
	"fmt"
	"math"
	"testing"

	"freshet/api"
	"freshet/arena"
)

func TestNew(t *testing.T) {
	for _, budget := range []int{1024, 1025, 1039, 1040, 2047, 2048, 5000, 1<<20 - 1, 1 << 20} {
		a := made(t, budget)
		rooms(t, fmt.Sprintf("P6.1 New(%d)", budget), a, 0, budget)
		is(t, "P6.1 handles of what is new", walked(a.Handles(), -1), []pair{})
		none(t, "P6.1 what is new", a, 0)
		none(t, "P6.1 what is new", a, 1)
		none(t, "P6.1 what is new", a, 2)
	}
	for _, budget := range []int{1023, 1<<20 + 1, 0, 1, 16, 1000, -1, -1024, -1 << 20, 1 << 21, 1<<32 + 1024, math.MaxInt, math.MinInt} {
		a, e := arena.New(budget)
		if a != nil || e != api.ErrArg {
			t.Errorf("P6.1 New(%d): got %v %d", budget, a, e)
		}
	}
}

// costOf is Cost, told once more.
func costOf(n int) int {
	if n < 0 || n > 4096 {
		return 0
	}
	cost := 16
	for cost < n+8 {
		cost += cost
	}
	return cost
}

func TestCost(t *testing.T) {
	for n, want := range map[int]int{
		0: 16, 1: 16, 8: 16, 9: 32, 24: 32, 25: 64, 56: 64, 57: 128, 120: 128, 121: 256, 248: 256, 249: 512, 504: 512, 505: 1024,
		1016: 1024, 1017: 2048, 2040: 2048, 2041: 4096, 4088: 4096, 4089: 8192, 4096: 8192, 4097: 0, 8184: 0, 8192: 0, -1: 0, -8: 0, -9: 0,
	} {
		is(t, fmt.Sprintf("P6.1 Cost(%d)", n), arena.Cost(n), want)
	}
	for n := -100; n < 9000; n++ {
		if got := arena.Cost(n); got != costOf(n) {
			t.Errorf("P6.1 Cost(%d): got %d, want %d", n, got, costOf(n))
		}
	}
	for _, n := range far() {
		is(t, fmt.Sprintf("P6.1 Cost(%d)", n), arena.Cost(n), 0)
	}
}

// Each size there is: the block takes what Cost says, has so many bytes, all 0, and no more.
func TestAllocSizes(t *testing.T) {
	a := made(t, 1<<14)
	for n := 0; n <= 4096; n++ {
		gets(t, "P6.1", a, n, 1)
		what := fmt.Sprintf("P6.1 a block of %d bytes", n)
		rooms(t, what, a, costOf(n), 1<<14-costOf(n))
		holds(t, what, a, 1, make([]byte, n))
		fills(t, a, 1, n)
		holds(t, what+", written", a, 1, filling(n, n))
		frees(t, a, 1)
		rooms(t, what+", freed", a, 0, 1<<14)
	}
}

func TestAllocTooBig(t *testing.T) {
	for _, budget := range []int{1024, 1 << 20} {
		a := made(t, budget)
		for _, n := range append(far(), 4097, 5000, 8184, 8192) {
			refused(t, "P6.1 what has no Cost", a, n, api.ErrBig)
		}
		rooms(t, "P6.1 behind ErrBig", a, 0, budget)
	}
	// Of what is too big, ErrBig is told even if all is full.
	a := made(t, 1024)
	gets(t, "P6.1", a, 1016, 1)
	rooms(t, "P6.1 all", a, 1024, 0)
	refused(t, "P6.1 both", a, 4097, api.ErrBig)
	refused(t, "P6.1 both", a, -1, api.ErrBig)
	refused(t, "P6.1 no room", a, 4096, api.ErrFull)
	refused(t, "P6.1 no room", a, 0, api.ErrFull)
}

func TestAllocFull(t *testing.T) {
	for _, budget := range []int{1024, 1025, 1039, 1040, 1055, 1056, 1234, 2048, 9999} {
		for _, n := range []int{0, 8, 9, 24, 25, 100, 500, 1000, 4000} {
			what := fmt.Sprintf("P6.1 blocks of %d bytes in %d", n, budget)
			a := made(t, budget)
			for h := 1; h*costOf(n) <= budget; h++ {
				gets(t, what, a, n, h)
				fills(t, a, h, h)
			}
			count := budget / costOf(n)
			refused(t, what, a, n, api.ErrFull)
			rooms(t, what, a, count*costOf(n), budget-count*costOf(n))
			// What is left takes smaller ones, to the last bytes.
			for left := budget - count*costOf(n); left >= 16; left -= 16 {
				count++
				gets(t, what+", and a small one", a, 8, count)
				fills(t, a, count, count)
			}
			refused(t, what+", and small ones", a, 0, api.ErrFull)
			rooms(t, what+", and small ones", a, budget/16*16, budget%16)
			is(t, what, len(walked(a.Handles(), -1)), count)
			for h := 1; h <= count; h++ {
				size, _ := a.Size(h)
				holds(t, what, a, h, filling(size, h))
			}
		}
	}
}

// As long as Used and the Cost are the budget at most, there is room, and not a byte beyond.
func TestAllocTight(t *testing.T) {
	for extra := range 64 {
		a := made(t, 1024+extra)
		gets(t, "P6.1", a, 8, 1)
		gets(t, "P6.1", a, 504, 2)
		frees(t, a, 1)
		gets(t, "P6.1", a, 0, 1) // 16 and 512 are used
		what := fmt.Sprintf("P6.1 with %d more", extra)
		if 16+512+512 <= 1024+extra {
			gets(t, what, a, 504, 3)
			rooms(t, what, a, 1040, extra-16)
		} else {
			refused(t, what, a, 504, api.ErrFull)
			rooms(t, what, a, 528, 496+extra)
		}
	}
}

func TestAllocMost(t *testing.T) {
	a := made(t, 1<<20)
	for h := 1; h <= 1<<16; h++ {
		gets(t, "P6.1", a, h%9, h)
		a.Write(h, 0, filling(h%9, h))
	}
	rooms(t, "P6.1 as many as there may be", a, 1<<20, 0)
	refused(t, "P6.1 one more", a, 0, api.ErrFull)
	none(t, "P6.1 as many as there may be", a, 1<<16+1)
	is(t, "P6.2 Compact of what is full", a.Compact(), 0)
	h := 0
	for got, n := range a.Handles() {
		if h++; got != h || n != h%9 {
			t.Fatalf("P6.2 Handles: got %d %d, want %d %d", got, n, h, h%9)
		}
		holds(t, "P6.2 one of all", a, h, filling(n, h))
	}
	is(t, "P6.2 all handles", h, 1<<16)
	// Every other one goes: what is free lies in as many pieces as it can.
	for h := 1; h <= 1<<16; h += 2 {
		frees(t, a, h)
	}
	rooms(t, "P6.1 every other one", a, 1<<19, 1<<19)
	for i := range 64 {
		gets(t, "P6.1 of what lies here and there", a, 4096, 2*i+1)
		holds(t, "P6.1 of what lies here and there", a, 2*i+1, make([]byte, 4096))
	}
	rooms(t, "P6.1 full once more", a, 1<<20, 0)
	refused(t, "P6.1 full once more", a, 0, api.ErrFull)
	for h := 2; h <= 1<<16; h += 2 {
		holds(t, "P6.1 what was moved", a, h, filling(h%9, h))
	}
}

func TestHandleIsLeast(t *testing.T) {
	a := made(t, 1<<14)
	for h := 1; h <= 300; h++ {
		gets(t, "P6.1", a, h%20, h)
	}
	// Whatever order they go in, they come back from the least one on.
	frees(t, a, 200, 3, 64, 65, 128, 129, 1, 300, 63)
	for _, h := range []int{1, 3, 63, 64, 65} {
		gets(t, "P6.1 the least one", a, 40, h)
	}
	frees(t, a, 2, 65)
	for _, h := range []int{2, 65, 128, 129, 200, 300, 301} {
		gets(t, "P6.1 the least one", a, 0, h)
	}
	// One that goes and comes is the same again, and a new block.
	fills(t, a, 5, 5)
	frees(t, a, 5)
	none(t, "P6.1 freed", a, 5)
	gets(t, "P6.1 the least one", a, 6, 5)
	holds(t, "P6.1 a new block", a, 5, make([]byte, 6))
	for h := 1; h <= 301; h++ {
		frees(t, a, h)
	}
	rooms(t, "P6.1 all freed", a, 0, 1<<14)
	gets(t, "P6.1 the least one", a, 0, 1)
	// One that is refused takes none.
	refused(t, "P6.1", a, 4097, api.ErrBig)
	gets(t, "P6.1 behind one that was refused", a, 4096, 2)
	gets(t, "P6.1", a, 2040, 3)
	gets(t, "P6.1", a, 2040, 4)
	gets(t, "P6.1", a, 2040, 5)
	refused(t, "P6.1", a, 2040, api.ErrFull)
	gets(t, "P6.1 behind one that was refused", a, 0, 6)
}

func TestFree(t *testing.T) {
	a := made(t, 1024)
	gets(t, "P6.1", a, 10, 1)
	gets(t, "P6.1", a, 100, 2)
	gets(t, "P6.1", a, 0, 3)
	for _, h := range append(far(), 0, 4, 5, 63, 64, 65, 128, 1024) {
		none(t, "P6.1 no block's", a, h)
		rooms(t, "P6.1 behind ErrNone", a, 32+128+16, 848)
	}
	frees(t, a, 2)
	rooms(t, "P6.1 one freed", a, 48, 976)
	none(t, "P6.1 freed already", a, 2)
	rooms(t, "P6.1 freed twice", a, 48, 976)
	is(t, "P6.2 those that are left", walked(a.Handles(), -1), []pair{{1, 10}, {3, 0}})
	frees(t, a, 3, 1)
	rooms(t, "P6.1 all freed", a, 0, 1024)
	for h := range 5 {
		none(t, "P6.1 all freed", a, h)
	}
	gets(t, "P6.1 all of it", a, 1000, 1)
	refused(t, "P6.1 all of it", a, 0, api.ErrFull)
}

// What was free is 0 again, whatever stood there, and whichever way it was free.
func TestBlocksAreZero(t *testing.T) {
	a := made(t, 4096)
	for _, n := range []int{8, 24, 4088, 120, 9, 0, 1016, 3, 2040, 2000, 4088} {
		for h := 1; ; h++ {
			if _, e := a.Alloc(n); e != api.OK {
				break
			}
			holds(t, "P6.1 a new block", a, h, make([]byte, n))
			fills(t, a, h, h)
		}
		is(t, "P6.2 Compact", a.Compact(), a.Left())
		for h := range a.Handles() {
			frees(t, a, h)
		}
		rooms(t, "P6.1 all freed", a, 0, 4096)
	}
}
