package intern_test

import (
	"fmt"
	"math"
	"strings"
	"testing"

	"freshet/api"
	"freshet/arena"
	"freshet/intern"
)

// is compares what was told.
func is(t *testing.T, what string, got, want any) {
	t.Helper()
	if fmt.Sprintf("%T%#v", got, got) != fmt.Sprintf("%T%#v", want, want) {
		t.Errorf("%s:\n got %#v\nwant %#v", what, got, want)
	}
}

// wire is the name of labels, each a part of s between blanks; without the help of package name.
func wire(s string) string {
	n := ""
	for _, l := range strings.Fields(s) {
		n += string([]byte{byte(len(l))}) + l
	}
	return n + "\x00"
}

// ofBytes is a name of so many bytes (1, or 3 and more), all of whose letters are c.
func ofBytes(n int, c string) string {
	out := ""
	for left := n - 1; left > 0; {
		most := min(left-1, api.MaxLabel)
		if left-1-most == 1 { // one byte alone is no label
			most--
		}
		out += string([]byte{byte(most)}) + strings.Repeat(c, most)
		left -= most + 1
	}
	return out + "\x00"
}

// small is a name folded, told once more.
func small(n string) string {
	b := []byte(n)
	for i, c := range b {
		if strings.IndexByte("ABCDEFGHIJKLMNOPQRSTUVWXYZ", c) >= 0 {
			b[i] = c + 32
		}
	}
	return string(b)
}

// costOf is what a name's block takes, told once more.
func costOf(n string) int {
	cost := 16
	for cost < len(n)+8+8 {
		cost += cost
	}
	return cost
}

// wrong is what is not a name.
func wrong() []string {
	return []string{
		"", "x", "A", "a.b.", "\x01", "\x01a", "\x02a\x00", "\x01a\x00\x00", "\x00\x00", "\x01a\x01b", "a\x00", "\xc0\x00", "\x01a\xc0\x00",
		"\x40" + strings.Repeat("a", 64) + "\x00", ofBytes(256, "a"), ofBytes(300, "a"), strings.Repeat("\x01a", 1<<15) + "\x00", strings.Repeat("A", 1<<16),
	}
}

// far are numbers that are no id anywhere.
func far() []int {
	return []int{-1, -2, 0, math.MinInt, math.MinInt + 1, math.MaxInt, 1<<16 + 1, 1 << 20, 1 << 31, 1 << 32, 1<<32 + 1, 1<<32 + 2, -1 << 32}
}

// made is a table in an arena of so many bytes.
func made(t *testing.T, budget int) (*arena.Arena, *intern.Table) {
	t.Helper()
	a, e := arena.New(budget)
	if e != api.OK {
		t.Fatalf("arena.New(%d): %d", budget, e)
	}
	return a, intern.New(a)
}

// adds holds that a name is taken, under that id.
func adds(t *testing.T, x *intern.Table, n string, want int) {
	t.Helper()
	id, e := x.Add(n)
	if id != want || e != api.OK {
		t.Fatalf("P7.1 Add(%q): got %d %d, want %d", n, id, e, want)
	}
}

// refused holds that a name is not taken.
func refused(t *testing.T, what string, x *intern.Table, n string, want api.Errno) {
	t.Helper()
	id, e := x.Add(n)
	if id != 0 || e != want {
		t.Errorf("%s: Add(%.300q): got %d %d, want 0 %d", what, n, id, e, want)
	}
}

// drops takes one use of each.
func drops(t *testing.T, x *intern.Table, ids ...int) {
	t.Helper()
	for _, id := range ids {
		is(t, fmt.Sprintf("P7.1 Drop(%d)", id), x.Drop(id), api.OK)
	}
}

// there holds all that can be told of a name that is there.
func there(t *testing.T, what string, a *arena.Arena, x *intern.Table, n string, id, uses int) {
	t.Helper()
	got, ok := x.Name(id)
	found, okToo := x.Find(n)
	is(t, fmt.Sprintf("%s: Name(%d), Find(%q), Uses, Cost", what, id, n), []any{got, ok, found, okToo, x.Uses(id), x.Cost(n)}, []any{small(n), true, id, true, uses, 0})
	size, _ := a.Size(id)
	is(t, fmt.Sprintf("%s: the size of block %d", what, id), size, len(n)+8)
	b, _ := a.Read(id, 0, size)
	if !strings.Contains(string(b), small(n)) {
		t.Errorf("%s: block %d has %q, and not %q", what, id, b, small(n))
	}
}

// noName holds that a name is not there.
func noName(t *testing.T, what string, x *intern.Table, n string) {
	t.Helper()
	id, ok := x.Find(n)
	is(t, fmt.Sprintf("%s: Find(%.300q)", what, n), []any{id, ok}, []any{0, false})
}

// noID holds that an id is no name's.
func noID(t *testing.T, what string, x *intern.Table, id int) {
	t.Helper()
	n, ok := x.Name(id)
	is(t, fmt.Sprintf("%s: Name, Uses, Drop of %d", what, id), []any{n, ok, x.Uses(id), x.Drop(id)}, []any{"", false, 0, api.ErrNone})
}

// rooms holds how many names there are, and what is used of the arena.
func rooms(t *testing.T, what string, a *arena.Arena, x *intern.Table, count, used int) {
	t.Helper()
	is(t, what+": Count, Used", []int{x.Count(), a.Used()}, []int{count, used})
}
