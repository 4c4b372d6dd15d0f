package ttl_test

import (
	"fmt"
	"math"
	"math/big"
	"testing"

	"freshet/api"
)

// most and least are the ends of the numbers.
const (
	most  = math.MaxInt
	least = math.MinInt
)

// is compares what was told.
func is(t *testing.T, what string, got, want any) {
	t.Helper()
	if fmt.Sprintf("%T%#v", got, got) != fmt.Sprintf("%T%#v", want, want) {
		t.Errorf("%s:\n got %#v\nwant %#v", what, got, want)
	}
}

// ends are numbers at which something begins or ends, and those beside them.
func ends() []int {
	l := []int{least, least + 1, least + 2, most - 2, most - 1, most}
	for _, n := range []int{0, 1 << 31, api.MaxTime, most - api.MaxTime, most / 2} {
		for d := -2; d <= 2; d++ {
			l = append(l, n+d, -n-d)
		}
	}
	return append(l, least+api.MaxTime, least+api.MaxTime+1, least+api.MaxTime-1)
}

// between is the exact number, or the end that it is behind.
func between(low int, n *big.Int, high int) int {
	if n.Cmp(big.NewInt(int64(low))) < 0 {
		return low
	}
	if n.Cmp(big.NewInt(int64(high))) > 0 {
		return high
	}
	return int(n.Int64())
}

// plus and minus are exact, of however great numbers.
func plus(a, b int) *big.Int  { return new(big.Int).Add(big.NewInt(int64(a)), big.NewInt(int64(b))) }
func minus(a, b int) *big.Int { return new(big.Int).Sub(big.NewInt(int64(a)), big.NewInt(int64(b))) }

// lesser is the lesser one.
func lesser(a, b int) int {
	if a < b {
		return a
	}
	return b
}
