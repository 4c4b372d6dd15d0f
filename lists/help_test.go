package lists_test

import (
	"fmt"
	"math"
	"testing"

	"freshet/lists"
)

// is compares what was told.
func is(t *testing.T, what string, got, want any) {
	t.Helper()
	if fmt.Sprintf("%T%#v", got, got) != fmt.Sprintf("%T%#v", want, want) {
		t.Errorf("%s:\n got %#v\nwant %#v", what, got, want)
	}
}

// timed is one, and when.
type timed struct {
	key string
	at  int
}

// ordered is a walk over who would go first, stopped behind so many (of -1: never).
func ordered[K comparable](walk func(yield func(K) bool), most int) []K {
	l := []K{}
	if most == 0 {
		return l
	}
	for k := range walk {
		l = append(l, k)
		if len(l) == most {
			break
		}
	}
	return l
}

// told is a walk over who is by then, stopped likewise.
func told(walk func(yield func(string, int) bool), most int) []timed {
	l := []timed{}
	for k, at := range walk {
		l = append(l, timed{k, at})
		if len(l) == most {
			break
		}
	}
	return l
}

// letters are the letters of s, each a key.
func letters(s string) []string {
	l := []string{}
	for i := range len(s) {
		l = append(l, s[i:i+1])
	}
	return l
}

// lru is one of those keys, in that order; the letters behind a bar are Touched, too.
func lru(most int, first, then string) *lists.LRU[string] {
	l := lists.NewLRU[string](most)
	for _, k := range letters(first + then) {
		l.Add(k)
	}
	for _, k := range letters(then) {
		l.Touch(k)
	}
	return l
}

// stands holds who would go first, and how many are where.
func stands(t *testing.T, what string, l *lists.LRU[string], first, then string) {
	t.Helper()
	is(t, what+": Order", ordered(l.Order(), -1), letters(first+then))
	p, q := l.Len()
	is(t, what+": Len", []int{p, q}, []int{len(first), len(then)})
}

// touches holds whether each one is there to be Touched.
func touches(t *testing.T, l *lists.LRU[string], keys string, want bool) {
	t.Helper()
	for _, k := range letters(keys) {
		is(t, fmt.Sprintf("P9.1 Touch(%s)", k), l.Touch(k), want)
	}
}

// drops holds whether each one is there to be Dropped.
func drops(t *testing.T, l interface{ Drop(string) bool }, keys string, want bool) {
	t.Helper()
	for _, k := range letters(keys) {
		is(t, fmt.Sprintf("Drop(%s)", k), l.Drop(k), want)
	}
}

// due is one of those keys and times.
func due(l ...timed) *lists.Due[string] {
	d := lists.NewDue[string]()
	for _, x := range l {
		d.Set(x.key, x.at)
	}
	return d
}

// by holds who is when, all of them.
func by(t *testing.T, what string, d *lists.Due[string], want ...timed) {
	t.Helper()
	is(t, what+": Upto", told(d.Upto(math.MaxInt), -1), append([]timed{}, want...))
	is(t, what+": Len", d.Len(), len(want))
	for _, x := range want {
		at, ok := d.At(x.key)
		is(t, fmt.Sprintf("%s: At(%s)", what, x.key), []any{at, ok}, []any{x.at, true})
	}
}
