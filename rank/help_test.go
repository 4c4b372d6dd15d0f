package rank_test

import (
	"fmt"
	"math"
	"testing"
)

// is compares what was told.
func is(t *testing.T, what string, got, want any) {
	t.Helper()
	if fmt.Sprintf("%T%#v", got, got) != fmt.Sprintf("%T%#v", want, want) {
		t.Errorf("%s:\n got %#v\nwant %#v", what, got, want)
	}
}

// ends are numbers at which something begins or ends, and those beside them.
func ends() []int {
	l := []int{math.MinInt, math.MinInt + 1, math.MaxInt - 1, math.MaxInt}
	for n := -12; n <= 12; n++ {
		l = append(l, n)
	}
	return append(l, 255, 256, 257, 258, 260, 265, 1<<32, 1<<32+1, 1<<32+2, 1<<32+4, -1<<32+1, -1<<32+4, 1<<62)
}
