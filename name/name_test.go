package name_test

import (
	"fmt"
	"slices"
	"strings"
	"testing"

	"freshet/api"
	"freshet/name"
)

func TestValid(t *testing.T) {
	is(t, "P1.1 Root", name.Root, "\x00")
	for _, n := range append(right(), some(1, 100)...) {
		is(t, fmt.Sprintf("P1.1 Valid(%q)", n), name.Valid(n), true)
	}
	for _, n := range wrong() {
		is(t, fmt.Sprintf("P1.1 Valid(%.300q)", n), name.Valid(n), false)
	}
	for size := range 256 {
		// A label of that many bytes, all of which are there.
		n := string([]byte{byte(size)}) + strings.Repeat("a", size) + "\x00"
		is(t, fmt.Sprintf("P1.1 Valid of a label of %d", size), name.Valid(n), 1 <= size && size <= 63)
	}
	for size := 70; size < 600; size++ {
		is(t, fmt.Sprintf("P1.1 Valid of %d bytes", size), name.Valid(ofBytes(size)), size <= 255)
	}
	is(t, "P1.1 Valid, cut off", name.Valid(ofBytes(255)[:254]), false)
}

func TestLabels(t *testing.T) {
	collect := func(n string) string { return fmt.Sprintf("%q", slices.Collect(name.Labels(n))) }
	is(t, "P1.1 Labels", collect(wire("www Example com")), `["www" "Example" "com"]`)
	is(t, "P1.1 Labels", collect("\x03a\x01b\x01.\x00"), `["a\x01b" "."]`)
	is(t, "P1.1 Labels of Root", collect("\x00"), `[]`)
	is(t, "P1.1 Count of Root", name.Count("\x00"), 0)
	for _, n := range append(right(), some(2, 100)...) {
		is(t, fmt.Sprintf("P1.1 Labels(%q)", n), collect(n), fmt.Sprintf("%q", parts(n)))
		is(t, fmt.Sprintf("P1.1 Count(%q)", n), name.Count(n), len(parts(n)))
	}
	is(t, "P1.1 Count", name.Count(strings.Repeat("\x01a", 127)+"\x00"), 127)
	for _, n := range wrong() {
		is(t, fmt.Sprintf("P1.1 Labels(%.300q)", n), collect(n), `[]`)
		is(t, fmt.Sprintf("P1.1 Count(%.300q)", n), name.Count(n), 0)
	}
}

func TestLabelsWalk(t *testing.T) {
	walk := name.Labels(wire("a b c d"))
	is(t, "P1.1 a walk", fmt.Sprint(slices.Collect(walk)), "[a b c d]")
	is(t, "P1.1 the same walk again", fmt.Sprint(slices.Collect(walk)), "[a b c d]")
	for most := 1; most <= 4; most++ {
		met := []string{}
		walk(func(l string) bool {
			met = append(met, l)
			return len(met) < most
		})
		is(t, "P1.1 a walk that ends", fmt.Sprint(met), fmt.Sprint([]string{"a", "b", "c", "d"}[:most]))
	}
	is(t, "P1.1 a walk behind one that ended", fmt.Sprint(slices.Collect(walk)), "[a b c d]")
	pairs := 0
	for range walk {
		for range walk {
			pairs++
		}
	}
	is(t, "P1.1 walks within a walk", pairs, 16)
}

func TestFold(t *testing.T) {
	is(t, "P1.1 Fold", name.Fold(wire("WwZ @[ A1-Z_")), wire("wwz @[ a1-z_"))
	for c := range 256 {
		want := byte(c)
		if 'A' <= c && c <= 'Z' {
			want = byte(c) + 32
		}
		is(t, fmt.Sprintf("P1.1 Fold of byte %d", c), name.Fold(string([]byte{1, byte(c), 0})), string([]byte{1, want, 0}))
	}
	long := wire(strings.Repeat("A", 63))
	is(t, "P1.1 Fold of a label of 63", name.Fold(long), "\x3f"+strings.Repeat("a", 63)+"\x00")
	is(t, "P1.1 Fold of Root", name.Fold("\x00"), "\x00")
	for _, n := range append(right(), some(3, 100)...) {
		folded := name.Fold(n)
		is(t, fmt.Sprintf("P1.1 Fold(%q), folded again", n), name.Fold(folded), folded)
		is(t, fmt.Sprintf("P1.1 Count of Fold(%q)", n), name.Count(folded), name.Count(n))
	}
	for _, n := range append(wrong(), "ABC", "\x03ABC", "\x41BC\x00") {
		is(t, fmt.Sprintf("P1.1 Fold(%.300q)", n), name.Fold(n), n)
	}
}

func TestSame(t *testing.T) {
	for _, c := range []struct {
		a, b string
		want bool
	}{
		{"\x00", "\x00", true},
		{wire("A b"), wire("a B"), true},
		{wire("a"), wire("b"), false},
		{wire("a"), "\x00", false},
		{wire("a b"), wire("b a"), false},
		{wire("a b"), wire("a"), false},
		{wire("a b"), wire("b"), false},
		{"\x03a\x01b\x00", "\x01a\x01b\x00", false}, // as many bytes, other labels
		{"\x01@\x00", "\x01`\x00", false},           // the signs beside the letters have no small ones
		{"\x01[\x00", "\x01{\x00", false},
		{"\x01\x01\x00", "\x01!\x00", false},
		{"\x01\xc1\x00", "\x01\xe1\x00", false},
		{"\x02\xc3\x84\x00", "\x02\xc3\xa4\x00", false}, // letters of other scripts have none, either
		{"\x03\xe2\x84\xaa\x00", "\x01k\x00", false},
	} {
		is(t, fmt.Sprintf("P1.1 Same(%q, %q)", c.a, c.b), name.Same(c.a, c.b), c.want)
		is(t, fmt.Sprintf("P1.1 Same(%q, %q)", c.b, c.a), name.Same(c.b, c.a), c.want)
	}
	for _, a := range some(4, 150) {
		for _, b := range some(5, 150) {
			is(t, fmt.Sprintf("P1.1 Same(%q, %q)", a, b), name.Same(a, b), name.Fold(a) == name.Fold(b))
		}
	}
	for _, n := range wrong() {
		is(t, fmt.Sprintf("P1.1 Same of %.300q and itself", n), name.Same(n, n), false)
		is(t, fmt.Sprintf("P1.1 Same of %.300q and Root", n), name.Same(n, "\x00") || name.Same("\x00", n), false)
	}
}

func TestParent(t *testing.T) {
	is(t, "P1.1 Parent", name.Parent(wire("www A")), wire("A"))
	is(t, "P1.1 Parent", name.Parent(wire("A")), "\x00")
	is(t, "P1.1 Parent of Root", name.Parent("\x00"), "\x00")
	is(t, "P1.1 Parent", name.Parent("\x02\x01a\x01b\x00"), "\x01b\x00")
	for _, n := range append(right(), some(6, 100)...) {
		l := parts(n)
		want := "\x00"
		if len(l) > 0 {
			want = n[1+len(l[0]):]
		}
		is(t, fmt.Sprintf("P1.1 Parent(%q)", n), name.Parent(n), want)
	}
	for _, n := range wrong() {
		is(t, fmt.Sprintf("P1.1 Parent(%.300q)", n), name.Parent(n), "\x00")
	}
}

// endsIn is Under, told by labels: the last ones of n are zone's.
func endsIn(n, zone string) bool {
	a, b := parts(name.Fold(n)), parts(name.Fold(zone))
	return len(a) >= len(b) && slices.Equal(a[len(a)-len(b):], b)
}

func TestUnder(t *testing.T) {
	for _, c := range []struct {
		n, zone string
		want    bool
	}{
		{"\x00", "\x00", true},
		{wire("a"), "\x00", true},
		{"\x00", wire("a"), false},
		{wire("a"), wire("a"), true},
		{wire("WWW a"), wire("A"), true},
		{wire("www x A"), wire("X a"), true},
		{wire("a"), wire("www a"), false},
		{wire("ba"), wire("a"), false},
		{wire("b a"), wire("c a"), false},
		{wire("a b"), wire("a"), false},
		{"\x03x\x01a\x00", "\x01a\x00", false}, // its bytes end so, its labels don't
		{"\x02\x01a\x01b\x00", "\x01a\x01b\x00", false},
		{"\x01\x00\x00", "\x00", true},
		{"\x01\x00\x00", "\x00\x00", false},
		{strings.Repeat("\x01a", 127) + "\x00", strings.Repeat("\x01A", 126) + "\x00", true},
	} {
		is(t, fmt.Sprintf("P1.1 Under(%q, %q)", c.n, c.zone), name.Under(c.n, c.zone), c.want)
	}
	for _, n := range append(right(), some(7, 100)...) {
		for _, zone := range append(right(), some(8, 100)...) {
			is(t, fmt.Sprintf("P1.1 Under(%q, %q)", n, zone), name.Under(n, zone), endsIn(n, zone))
		}
	}
	for _, n := range wrong() {
		is(t, fmt.Sprintf("P1.1 Under of %.300q", n), name.Under(n, n) || name.Under(n, "\x00") || name.Under("\x00", n) || name.Under(wire("a"), n) || name.Under(n, wire("a")), false)
	}
}

func TestCommon(t *testing.T) {
	for _, c := range []struct{ a, b, want string }{
		{wire("x B a"), wire("y b A"), wire("B a")},
		{wire("y b A"), wire("x B a"), wire("b A")},
		{wire("a"), wire("b"), "\x00"},
		{wire("a"), wire("x A"), wire("a")},
		{wire("x A"), wire("a"), wire("A")},
		{wire("X a"), wire("x A"), wire("X a")},
		{wire("xa"), wire("ya"), "\x00"},
		{wire("b a"), wire("b c"), "\x00"},
		{wire("b x a"), wire("b y a"), wire("a")},
		{"\x00", wire("a"), "\x00"},
		{wire("a"), "\x00", "\x00"},
		{"\x00", "\x00", "\x00"},
		{"\x03x\x01a\x00", "\x03y\x01a\x00", "\x00"}, // their bytes end alike, their labels don't
	} {
		is(t, fmt.Sprintf("P1.1 Common(%q, %q)", c.a, c.b), name.Common(c.a, c.b), c.want)
	}
	for _, a := range append(right(), some(9, 60)...) {
		for _, b := range append(right(), some(10, 60)...) {
			want := a
			for !endsIn(b, want) {
				want = want[1+int(want[0]):]
			}
			is(t, fmt.Sprintf("P1.1 Common(%q, %q)", a, b), name.Common(a, b), want)
		}
	}
	for _, n := range wrong() {
		is(t, fmt.Sprintf("P1.1 Common of %.300q", n), []string{name.Common(n, n), name.Common(n, wire("a")), name.Common(wire("a"), n)}, []string{"\x00", "\x00", "\x00"})
	}
}

func TestJoin(t *testing.T) {
	l63 := strings.Repeat("a", 63)
	ones := slices.Repeat([]string{"x"}, 127)
	for _, c := range []struct {
		labels []string
		want   string
	}{
		{nil, "\x00"},
		{[]string{"a"}, wire("a")},
		{[]string{"www", "Example", "com"}, wire("www Example com")},
		{[]string{"a.b", "\\", "\x00", "\xff "}, "\x03a.b\x01\\\x01\x00\x02\xff \x00"},
		{[]string{l63}, wire(l63)},
		{[]string{l63, l63, l63, l63[:61]}, wire(strings.Repeat(l63+" ", 3) + l63[:61])},
		{ones, strings.Repeat("\x01x", 127) + "\x00"},
	} {
		n, e := name.Join(c.labels...)
		is(t, fmt.Sprintf("P1.1 Join(%q)", c.labels), n, c.want)
		is(t, fmt.Sprintf("P1.1 Join(%q)", c.labels), e, api.OK)
	}
	for _, labels := range [][]string{
		{""}, {"a", ""}, {"", "a"}, {"a", "", "b"}, {l63 + "a"}, {"a", l63 + "a"}, {strings.Repeat("a", 256)}, {strings.Repeat("a", 257)}, {strings.Repeat("a", 1<<20)},
		{l63, l63, l63, l63[:62]}, {l63, l63, l63, l63}, append(slices.Clone(ones), "x"), slices.Repeat([]string{"x"}, 1<<16),
	} {
		n, e := name.Join(labels...)
		is(t, fmt.Sprintf("P1.1 Join(%.300q)", labels), n, "")
		is(t, fmt.Sprintf("P1.1 Join(%.300q)", labels), e, api.ErrBad)
	}
	for _, n := range append(right(), some(11, 100)...) {
		back, e := name.Join(slices.Collect(name.Labels(n))...)
		is(t, "P1.1 Join of Labels", back, n)
		is(t, "P1.1 Join of Labels", e, api.OK)
	}
}

func TestJoinLeavesLabels(t *testing.T) {
	room := []string{"b", "A", "spare", "room"}
	name.Join(room[:2]...)
	is(t, "P1.3 what Join is handed", room, []string{"b", "A", "spare", "room"})
}
