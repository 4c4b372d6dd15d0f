package name_test

import (
	"fmt"
	"slices"
	"strings"
	"testing"

	"freshet/api"
	"freshet/name"
)

// TestOrderOfList: each of a list is Less than those behind it, and than no other.
func TestOrderOfList(t *testing.T) {
	l := []string{
		"\x00",
		"\x01\x00\x00", "\x02\x00\x00\x00", "\x01\x01\x00", "\x01@\x00", "\x01[\x00", "\x01_\x00", "\x01`\x00", // a capital counts as its small letter against signs, too
		wire("a"), wire("A a"), wire("b Z A"), wire("zz a"), // a name is ahead of those under it
		"\x02a\x00\x00", wire("a_"), wire("AA"), wire("x aa"), wire("aB"), wire("ac"),
		wire("B"), wire("a b"), wire("z a b"), wire("ab b"), wire("b B"), wire("c"),
		wire(strings.Repeat("c", 62)), wire(strings.Repeat("C", 63)), "\x01{\x00", "\x01\x7f\x00", "\x01\x80\x00", "\x01\xc1\x00", "\x01\xe1\x00", "\x01\xff\x00", "\x01a\x01\xff\x00",
	}
	for i, a := range l {
		for k, b := range l {
			is(t, fmt.Sprintf("P1.1 Less(%q, %q)", a, b), name.Less(a, b), i < k)
		}
	}
	is(t, "P1.1 Less of the Same", name.Less(wire("A b"), wire("a B")) || name.Less(wire("a B"), wire("A b")), false)
}

// lessByLabels is Less, told by lists of labels.
func lessByLabels(a, b string) bool {
	x, y := parts(name.Fold(a)), parts(name.Fold(b))
	slices.Reverse(x)
	slices.Reverse(y)
	return slices.Compare(x, y) < 0
}

func TestOrder(t *testing.T) {
	l := append(right(), some(13, 250)...)
	for _, a := range l {
		for _, b := range l {
			less, more := name.Less(a, b), name.Less(b, a)
			is(t, fmt.Sprintf("P1.1 Less(%q, %q)", a, b), less, lessByLabels(a, b))
			if name.Same(a, b) && (less || more) || !name.Same(a, b) && less == more {
				t.Errorf("P1.3 of %q and %q: not one of two", a, b)
			}
		}
	}
	// Sorted so, each is ahead of all that are behind it: there is one order of all of them.
	slices.SortFunc(l, func(a, b string) int {
		switch {
		case name.Less(a, b):
			return -1
		case name.Less(b, a):
			return 1
		}
		return 0
	})
	for i, a := range l {
		for _, b := range l[i+1:] {
			if name.Less(b, a) {
				t.Errorf("P1.3: %q is ahead of %q", a, b)
			}
		}
	}
}

func TestOrderOfWrong(t *testing.T) {
	for _, n := range wrong() {
		for _, other := range []string{n, "\x00", wire("a"), wire("b"), "x", ""} {
			is(t, fmt.Sprintf("P1.1 Less of %.300q", n), name.Less(n, other) || name.Less(other, n), false)
		}
	}
}

// TestNewMemory: what is answered stands nowhere in what was handed in.
func TestNewMemory(t *testing.T) {
	for _, s := range append(append(right(), wrong()...), some(14, 50)...) {
		n := strings.Clone(s)
		told := []string{name.Fold(n), name.Parent(n), name.Text(n), name.Common(n, wire("a")), name.Common(n, n), name.Common(wire("x"), n)}
		joined, _ := name.Join(n)
		parsed, _ := name.Parse(n)
		back, _ := name.Parse(name.Text(n))
		told = append(append(told, joined, parsed, back), slices.Collect(name.Labels(n))...)
		for i, answer := range told {
			if shares(answer, n) {
				t.Errorf("P1.3: answer %d of %.300q is no new memory", i, n)
			}
		}
		is(t, "P1.3 what was handed in", n, s)
	}
}

// FuzzNames: whatever comes, the calls hold together.
func FuzzNames(f *testing.F) {
	for _, n := range append(right(), wrong()...) {
		f.Add(n, wire("www a"))
		f.Add(name.Text(n), n)
	}
	f.Fuzz(func(t *testing.T, a, b string) {
		if n, e := name.Parse(a); e == api.OK && name.Text(n) != a || e != api.OK && n != "" {
			t.Errorf("P1.2 Parse(%q): %q, %d", a, n, e)
		}
		if !name.Valid(a) {
			is(t, "P1.1 of what is not Valid", []any{name.Count(a), name.Fold(a), name.Same(a, b), name.Parent(a), name.Under(a, b), name.Less(a, b), name.Common(a, b), name.Text(a)}, []any{0, a, false, "\x00", false, false, "\x00", ""})
			return
		}
		if back, e := name.Parse(name.Text(a)); back != a || e != api.OK {
			t.Errorf("P1.2 Parse of Text(%q): %q, %d", a, back, e)
		}
		if !name.Valid(b) {
			return
		}
		common := name.Common(a, b)
		if name.Under(a, b) != endsIn(a, b) || !endsIn(a, common) || !endsIn(b, common) || name.Less(a, b) != lessByLabels(a, b) {
			t.Errorf("P1.1 of %q and %q", a, b)
		}
	})
}
