package wname_test

import (
	"fmt"
	"math"
	"math/rand"
	"strings"
	"testing"

	"freshet/api"
	"freshet/wname"
)

// is compares what was told.
func is(t *testing.T, what string, got, want any) {
	t.Helper()
	if fmt.Sprintf("%T%#v", got, got) != fmt.Sprintf("%T%#v", want, want) {
		t.Errorf("%s:\n got %#v\nwant %#v", what, got, want)
	}
}

// wire is the name of labels, each a part of s between blanks; without any check, and without the program's help.
func wire(s string) string {
	n := ""
	for _, l := range strings.Fields(s) {
		n += string([]byte{byte(len(l))}) + l
	}
	return n + "\x00"
}

// longest is a name of 255 bytes.
func longest() string {
	return wire(strings.Repeat("a", 63) + " " + strings.Repeat("b", 63) + " " + strings.Repeat("c", 63) + " " + strings.Repeat("d", 61))
}

// wrong is what is not a name.
func wrong() []string {
	return []string{
		"", "x", "a\x00", "\x01", "\x01a", "\x02a\x00", "\x01a\x00\x00", "\x00\x00", "\xc0\x00", "\x01a\xc0\x00", "www.a.",
		"\x40" + strings.Repeat("a", 64) + "\x00", strings.Repeat("\x01a", 128) + "\x00", "\x01e" + longest(), strings.Repeat("a", 1<<16),
	}
}

// numbers are some at and beyond the edges.
func numbers() []int {
	return []int{
		0, 1, 2, 127, 128, 255, 256, 258, 0x7fff, 0x8000, 0xfffe, 0xffff, 0x10000, 0x10304, 0xffffff, 0x1000000, 0x7fffffff, 0x80000000,
		0xffffffff, 0x100000000, 0x105060708, math.MaxInt, math.MinInt, math.MinInt + 1, -1, -2, -255, -256, -257, -0x10000, -0x80000000,
	}
}

// lowest is the lowest bytes of a number, by sums alone: as many as size.
func lowest(n, size int) string {
	out := ""
	for range size {
		digit := n % 256
		if digit < 0 {
			digit += 256
		}
		out = string([]byte{byte(digit)}) + out
		n = (n - digit) / 256
	}
	return out
}

// written is what a Writer has; there must be something to be had.
func written(t *testing.T, w *wname.Writer) string {
	t.Helper()
	b, e := w.Out()
	is(t, "P2.2 Out", e, api.OK)
	return string(b)
}

// tooBig holds that there is nothing to be had.
func tooBig(t *testing.T, what string, w *wname.Writer) {
	t.Helper()
	b, e := w.Out()
	is(t, what, len(b), 0)
	is(t, what, e, api.ErrBig)
}

// found holds what Get answers.
func found(t *testing.T, what string, b []byte, at int, n string, next int) {
	t.Helper()
	x, y, e := wname.Get(b, at)
	is(t, what, x, n)
	is(t, what, y, next)
	is(t, what, e, api.OK)
}

// refused holds that there is no name.
func refused(t *testing.T, what string, b []byte, at int) {
	t.Helper()
	x, y, e := wname.Get(b, at)
	is(t, what, x, "")
	is(t, what, y, 0)
	is(t, what, e, api.ErrBad)
}

// some is a name made by chance: of few letters, so that many end alike.
func some(r *rand.Rand) string {
	n := "\x00"
	for range r.Intn(5) {
		l := strings.Repeat(string("aAb\x00"[r.Intn(4)]), 1+r.Intn(2))
		n = string([]byte{byte(len(l))}) + l + n
	}
	return n
}
