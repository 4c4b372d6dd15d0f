package lists_test

import (
	"fmt"
	"math"
	"testing"

	"freshet/api"
	"freshet/lists"
)

// alike holds what both lists tell of four keys, of whatever type.
func alike[K comparable](t *testing.T, a, b, c, no K) {
	t.Helper()
	what := fmt.Sprintf("keys of type %T", a)
	l := lists.NewLRU[K](1)
	for _, k := range []K{a, b, c, a, b, c} {
		l.Add(k)
	}
	is(t, "P9.1 "+what, ordered(l.Order(), -1), []K{a, b, c})
	is(t, "P9.1 "+what, []bool{l.Touch(a), l.Touch(no), l.Touch(b), l.Drop(no), l.Drop(c), l.Drop(c)}, []bool{true, false, true, false, true, false})
	is(t, "P9.1 "+what, ordered(l.Order(), -1), []K{a, b})
	p, q := l.Len()
	is(t, "P9.1 "+what, []int{p, q}, []int{1, 1})

	d := lists.NewDue[K]()
	for i, k := range []K{a, b, c, a} {
		d.Set(k, i/2)
	}
	got := []K{}
	for k, at := range d.Upto(1) {
		got = append(got, k)
		want, ok := d.At(k)
		is(t, "P9.2 "+what, []any{at, true}, []any{want, ok})
	}
	is(t, "P9.2 "+what, got, []K{b, c, a})
	is(t, "P9.2 "+what, []any{d.Drop(no), d.Drop(c), d.Drop(c), d.Len()}, []any{false, true, false, 2})
}

func TestKeys(t *testing.T) {
	alike(t, 1, 2, 3, 0)
	alike(t, "a", "b", "c", "")
	alike(t, "", "b", "c", "A")
	alike(t, 0, math.MaxInt, math.MinInt, 1)
	alike[uint8](t, 0, 1, 255, 2)
	alike(t, 0.5, math.Inf(1), -1, 0)
	alike(t, [2]int{0, 1}, [2]int{1, 0}, [2]int{1, 1}, [2]int{})
	alike(t, api.Key{Name: "\x01a\x00", Type: 1}, api.Key{Name: "\x01a\x00", Type: 2}, api.Key{Name: "\x01b\x00", Type: 1}, api.Key{})
	alike[any](t, 1, "1", 1.0, nil)
	alike[any](t, nil, int8(1), api.Key{}, 1)
	alike[error](t, text("a"), text("b"), nil, text("c"))
	one := [4]int{}
	alike(t, &one[0], &one[1], nil, &one[3])
}

type text string

func (x text) Error() string { return string(x) }

// No call panics, whatever a key of an interface's type has: what can't be held against others is never there.
func TestKeysThatCannotBe(t *testing.T) {
	type within struct {
		at   float64
		what any
	}
	for _, k := range []any{[]int{1}, []int(nil), map[string]int{}, func() {}, within{1, []string{"a"}}, within{math.NaN(), []string{"a"}}, [2]any{1, []int{}}} {
		l := lists.NewLRU[any](1)
		for range 2 {
			l.Add(k)
			is(t, "P9.1 what can't be a key", []bool{l.Touch(k), l.Drop(k)}, []bool{false, false})
			is(t, "P9.1 what can't be a key", len(ordered(l.Order(), -1)), 0)
			l.Add(1)
			l.Add(k)
			is(t, "P9.1 beside what can't be a key", []bool{l.Touch(1), l.Touch(k), l.Drop(k), l.Drop(1)}, []bool{true, false, false, true})
		}
		d := lists.NewDue[any]()
		for range 2 {
			d.Set(k, 1)
			at, ok := d.At(k)
			is(t, "P9.2 what can't be a key", []any{at, ok, d.Drop(k), d.Len()}, []any{0, false, false, 0})
			for range d.Upto(1) {
				t.Error("P9.2 what can't be a key was told")
			}
			d.Set(2, 1)
			d.Set(k, 0)
			is(t, "P9.2 beside what can't be a key", []any{d.Len(), d.Drop(2)}, []any{1, true})
		}
	}
}

// What isn't itself is never there: each time it is another one.
func TestKeysThatAreNotThemselves(t *testing.T) {
	k := math.NaN()
	l := lists.NewLRU[float64](1)
	for range 3 {
		l.Add(k)
	}
	l.Add(1)
	is(t, "P9.1 NaN", []bool{l.Touch(k), l.Drop(k), l.Touch(1)}, []bool{false, false, true})
	is(t, "P9.1 NaN: Order", fmt.Sprint(ordered(l.Order(), -1)), "[NaN NaN NaN 1]")
	p, q := l.Len()
	is(t, "P9.1 NaN: Len", []int{p, q}, []int{3, 1})
	d := lists.NewDue[float64]()
	for _, at := range []int{3, 1, 2} {
		d.Set(k, at)
	}
	d.Set(1, 2)
	_, ok := d.At(k)
	s := ""
	for k, at := range d.Upto(9) {
		s += fmt.Sprint(k, at, " ")
	}
	is(t, "P9.2 NaN", []any{ok, d.Drop(k), d.Len(), d.Drop(1), d.Len(), s}, []any{false, false, 4, true, 3, "NaN 1 NaN 2 1 2 NaN 3 "})
	// 0 and -0 are one.
	minus := math.Copysign(0, -1)
	l.Add(0)
	l.Add(minus)
	is(t, "P9.1 -0", []bool{l.Touch(minus), l.Drop(minus), l.Drop(0)}, []bool{true, true, false})
}
