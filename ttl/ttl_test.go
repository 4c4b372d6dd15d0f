package ttl_test

import (
	"fmt"
	"math/rand"
	"testing"

	"freshet/api"
	"freshet/ttl"
)

func TestCap(t *testing.T) {
	for _, x := range []struct{ ttl, most, want int }{
		{5, 9, 5}, {9, 5, 5}, {5, 5, 5}, {0, 0, 0}, {0, 9, 0}, {9, 0, 0}, {1, 9, 1}, {9, 1, 1},
		{api.MaxTTL, api.MaxTTL, api.MaxTTL}, {api.MaxTTL + 1, api.MaxTTL, api.MaxTTL}, {api.MaxTTL - 1, api.MaxTTL, api.MaxTTL - 1},
		{-1, 9, 0}, {9, -1, 0}, {-1, -1, 0}, {-9, -1, 0}, {least, most, 0}, {most, least, 0}, {least, least, 0}, {most, most, most}, {most, most - 1, most - 1},
	} {
		is(t, fmt.Sprintf("P11.1 Cap(%d, %d)", x.ttl, x.most), ttl.Cap(x.ttl, x.most), x.want)
	}
}

func TestExpiry(t *testing.T) {
	for _, x := range []struct{ now, ttl, want int }{
		{5, 6, 11}, {0, 0, 0}, {5, 0, 5}, {0, 6, 6}, {100, 3600, 3700},
		{5, -1, 5}, {5, -6, 5}, {5, least, 5}, {0, least, 0}, {-5, -6, -5},
		{-9, 5, -4}, {-9, 9, 0}, {-9, 10, 1}, {least, 0, least}, {least, 1, least + 1}, {least, most, -1}, {least, least, least},
		{api.MaxTime - 1, 0, api.MaxTime - 1}, {api.MaxTime - 1, 1, api.MaxTime}, {api.MaxTime - 1, 2, api.MaxTime}, {api.MaxTime, 0, api.MaxTime}, {api.MaxTime, 1, api.MaxTime},
		{api.MaxTime + 1, 0, api.MaxTime}, {api.MaxTime + 1, -1, api.MaxTime}, {api.MaxTime + 1, least, api.MaxTime}, {most, 0, api.MaxTime}, {most, least, api.MaxTime},
		{0, api.MaxTime - 1, api.MaxTime - 1}, {0, api.MaxTime, api.MaxTime}, {0, api.MaxTime + 1, api.MaxTime}, {-1, api.MaxTime + 1, api.MaxTime}, {-1, api.MaxTime, api.MaxTime - 1},
		{7, most, api.MaxTime}, {most, 1, api.MaxTime}, {most, most, api.MaxTime}, {most, 2, api.MaxTime}, {1, most, api.MaxTime}, {-1, most, api.MaxTime},
	} {
		is(t, fmt.Sprintf("P11.1 Expiry(%d, %d)", x.now, x.ttl), ttl.Expiry(x.now, x.ttl), x.want)
	}
}

func TestLeftAndOver(t *testing.T) {
	for _, x := range []struct{ expiry, now, want int }{
		{10, 4, 6}, {4, 10, 0}, {4, 4, 0}, {4, 3, 1}, {3, 4, 0}, {0, 0, 0}, {1, 0, 1}, {0, 1, 0},
		{4, -4, 8}, {-4, 4, 0}, {-4, -10, 6}, {-10, -4, 0}, {0, -most, most},
		{api.MaxTime, 0, api.MaxTime}, {api.MaxTime, api.MaxTime, 0}, {api.MaxTime, api.MaxTime - 1, 1},
		{most, 0, most}, {most, 1, most - 1}, {most, -1, most}, {most, least, most}, {0, least, most}, {-1, least, most}, {-2, least, most - 1}, {5, least, most}, {least + 1, least, 1},
		{least, most, 0}, {least, 1, 0}, {least, 0, 0}, {least, least, 0}, {most, most, 0}, {most, most - 1, 1}, {-2, most, 0}, {0, most, 0},
	} {
		is(t, fmt.Sprintf("P11.1 Left(%d, %d)", x.expiry, x.now), ttl.Left(x.expiry, x.now), x.want)
		is(t, fmt.Sprintf("P11.1 Over(%d, %d)", x.expiry, x.now), ttl.Over(x.expiry, x.now), x.want == 0)
	}
}

func TestLeast(t *testing.T) {
	for _, x := range []struct {
		l    []int
		want int
	}{
		{nil, 0}, {[]int{}, 0}, {[]int{5}, 5}, {[]int{-5}, -5}, {[]int{0}, 0}, {[]int{most}, most}, {[]int{least}, least},
		{[]int{5, 3, 7}, 3}, {[]int{3, 5, 7}, 3}, {[]int{7, 5, 3}, 3}, {[]int{3, 3, 3}, 3}, {[]int{5, -3, 7}, -3}, {[]int{5, 0, 7}, 0}, {[]int{-5, 0, 7}, -5},
		{[]int{most, least}, least}, {[]int{least, most}, least}, {[]int{most, most - 1}, most - 1},
	} {
		is(t, fmt.Sprintf("P11.1 Least(%v)", x.l), ttl.Least(x.l...), x.want)
	}
	is(t, "P11.1 Least()", ttl.Least(), 0)
}

// What is handed in is not turned, its spare room neither.
func TestLeastTurnsNothing(t *testing.T) {
	l := []int{9, 5, 3, 8, 7}
	is(t, "P11.1 Least of a part", ttl.Least(l[:2]...), 5)
	is(t, "P11.1 the list is as it was", l, []int{9, 5, 3, 8, 7})
}

func TestNegative(t *testing.T) {
	for _, x := range []struct{ soattl, minimum, most, want int }{
		{5, 9, 7, 5}, {9, 5, 7, 5}, {9, 8, 7, 7}, {8, 9, 7, 7}, {7, 7, 7, 7}, {3600, 300, 10800, 300}, {300, 3600, 10800, 300}, {86400, 86400, 10800, 10800},
		{0, 8, 7, 0}, {8, 0, 7, 0}, {8, 9, 0, 0}, {-1, 8, 7, 0}, {8, -1, 7, 0}, {8, 9, -1, 0}, {-1, -2, -3, 0},
		{most, most, most, most}, {least, most, most, 0}, {most, least, most, 0}, {most, most, least, 0}, {most, most - 1, most, most - 1},
	} {
		is(t, fmt.Sprintf("P11.1 Negative(%d, %d, %d)", x.soattl, x.minimum, x.most), ttl.Negative(x.soattl, x.minimum, x.most), x.want)
	}
}

// Each call against sums that have no end, at the numbers at which something begins or ends, and by chance.
func TestAsItIs(t *testing.T) {
	for _, a := range ends() {
		for _, b := range ends() {
			holds(t, a, b)
		}
	}
	r := rand.New(rand.NewSource(11))
	for range 20000 {
		holds(t, int(r.Uint64())>>r.Intn(64), int(r.Uint64())>>r.Intn(64))
	}
}

// What is left, and what has gone by, is what it was.
func TestGoneBy(t *testing.T) {
	r := rand.New(rand.NewSource(112))
	for range 20000 {
		came, long := r.Intn(api.MaxTime-api.MaxTTL), 1+r.Intn(api.MaxTTL)
		now := came + r.Intn(long)
		x := ttl.Expiry(came, long)
		is(t, fmt.Sprintf("P11.2 %d at %d: what is left, and what has gone by", long, now), ttl.Left(x, now)+now-came, long)
		is(t, fmt.Sprintf("P11.2 %d at %d: Over", long, now), ttl.Over(x, now), false)
		is(t, fmt.Sprintf("P11.2 %d at its end: Left, Over", long), []any{ttl.Left(x, came+long), ttl.Over(x, came+long)}, []any{0, true})
		is(t, fmt.Sprintf("P11.2 %d ahead of its end: Left", long), ttl.Left(x, came+long-1), 1)
	}
}

func FuzzTimes(f *testing.F) {
	for _, a := range ends() {
		f.Add(a, -a)
	}
	f.Fuzz(func(t *testing.T, a, b int) { holds(t, a, b) })
}

// holds holds all calls of two numbers against sums that have no end.
func holds(t *testing.T, a, b int) {
	t.Helper()
	is(t, fmt.Sprintf("P11.1 Cap(%d, %d)", a, b), ttl.Cap(a, b), between(0, plus(lesser(a, b), 0), most))
	long := between(0, plus(b, 0), most)
	is(t, fmt.Sprintf("P11.1 Expiry(%d, %d)", a, b), ttl.Expiry(a, b), between(least, plus(a, long), api.MaxTime))
	left := between(0, minus(a, b), most)
	is(t, fmt.Sprintf("P11.1 Left(%d, %d)", a, b), ttl.Left(a, b), left)
	is(t, fmt.Sprintf("P11.1 Over(%d, %d)", a, b), ttl.Over(a, b), left == 0)
	is(t, fmt.Sprintf("P11.1 Least(%d, %d)", a, b), ttl.Least(a, b), lesser(a, b))
	for _, high := range []int{least, -1, 0, 1, api.MaxTTL, most} {
		is(t, fmt.Sprintf("P11.1 Negative(%d, %d, %d)", a, b, high), ttl.Negative(a, b, high), between(0, plus(lesser(lesser(a, b), high), 0), most))
	}
}
