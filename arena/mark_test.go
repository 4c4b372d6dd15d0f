package arena_test

import (
	"fmt"
	"testing"

	"freshet/api"
)

// marks holds which of the handles from 1 on are marked.
func marks(t *testing.T, what string, marked func(h int) bool, want ...bool) {
	t.Helper()
	got := []bool{}
	for h := range want {
		got = append(got, marked(h+1))
	}
	is(t, what+": Marked", got, want)
}

// A mark stays as long as its block is one, wherever that is moved and whatever is written.
func TestMark(t *testing.T) {
	a := made(t, 1024)
	for h := 1; h <= 4; h++ {
		gets(t, "Mark", a, 100, h)
		fills(t, a, h, h)
	}
	marks(t, "what is new", a.Marked, false, false, false, false)
	is(t, "Mark", []api.Errno{a.Mark(2), a.Mark(4), a.Mark(4)}, []api.Errno{api.OK, api.OK, api.OK})
	marks(t, "marked", a.Marked, false, true, false, true, false)
	for h := 1; h <= 4; h++ {
		holds(t, "marked", a, h, filling(100, h))
		fills(t, a, h, h+9)
	}
	marks(t, "written", a.Marked, false, true, false, true, false)
	frees(t, a, 1)
	marks(t, "freed", a.Marked, false, true, false, true)
	is(t, "Compact", a.Compact(), 1024-3*128)
	marks(t, "moved", a.Marked, false, true, false, true)
	holds(t, "moved", a, 4, filling(100, 13))
	// The next block of that handle, and of those bytes, has none.
	frees(t, a, 4, 2)
	marks(t, "freed", a.Marked, false, false, false, false)
	gets(t, "Mark", a, 100, 1)
	gets(t, "Mark", a, 100, 2)
	gets(t, "Mark", a, 500, 4)
	marks(t, "once more", a.Marked, false, false, false, false)
	rooms(t, "once more", a, 3*128+512, 128)
}

func TestMarkNone(t *testing.T) {
	a := made(t, 1024)
	gets(t, "Mark", a, 8, 1)
	for _, h := range append(far(), 0, 2, 64, 65) {
		is(t, fmt.Sprintf("Mark, Marked of %d", h), []any{a.Mark(h), a.Marked(h)}, []any{api.ErrNone, false})
	}
	marks(t, "the other one", a.Marked, false)
	a = nil
	is(t, "a nil one", []any{a.Mark(1), a.Marked(1)}, []any{api.ErrNone, false})
}

// The greatest handle there is has a mark, too, and no head is mixed up by one.
func TestMarkMost(t *testing.T) {
	a := made(t, 1<<20)
	for h := 1; h <= 1<<16; h++ {
		gets(t, "Mark", a, h%9, h)
		if h%3 == 0 {
			a.Mark(h)
		}
	}
	for h := 1; h <= 1<<16; h++ {
		if n, _ := a.Size(h); a.Marked(h) != (h%3 == 0) || n != h%9 {
			t.Fatalf("block %d: %d bytes, marked %v", h, n, a.Marked(h))
		}
	}
	for h := 1; h <= 1<<16; h += 2 {
		a.Free(h)
	}
	a.Compact()
	for h := 2; h <= 1<<16; h += 2 {
		if n, _ := a.Size(h); a.Marked(h) != (h%3 == 0) || n != h%9 {
			t.Fatalf("block %d, moved: %d bytes, marked %v", h, n, a.Marked(h))
		}
	}
	rooms(t, "half of them", a, 1<<19, 1<<19)
}
