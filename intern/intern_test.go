package intern_test

import (
	"fmt"
	"slices"
	"strings"
	"testing"
	"unsafe"

	"freshet/api"
	"freshet/arena"
	"freshet/intern"
)

func TestNew(t *testing.T) {
	for _, budget := range []int{1024, 1025, 5000, 1<<20 - 1, 1 << 20} {
		a, x := made(t, budget)
		rooms(t, "P7.1 a new one", a, x, 0, 0)
		for range a.Handles() {
			t.Error("P7.1 a new one: a block is there")
		}
		for _, n := range append(wrong(), "\x00", wire("a")) {
			noName(t, "P7.1 a new one", x, n)
		}
		for _, id := range append(far(), 1, 2, 3) {
			noID(t, "P7.1 a new one", x, id)
		}
	}
	// Blocks that are in the arena already are nobody's names.
	a, x := made(t, 1024)
	adds(t, x, wire("a"), 1)
	y := intern.New(a)
	rooms(t, "P7.1 a new one beside another", a, y, 0, 32)
	noName(t, "P7.1 a new one beside another", y, wire("a"))
	noID(t, "P7.1 a new one beside another", y, 1)
	there(t, "P7.1 the other one", a, x, wire("a"), 1, 1)
}

func TestAdd(t *testing.T) {
	a, x := made(t, 2048)
	adds(t, x, wire("A"), 1)
	adds(t, x, wire("a"), 1)
	there(t, "P7.1", a, x, wire("A"), 1, 2)
	there(t, "P7.1", a, x, wire("a"), 1, 2)
	rooms(t, "P7.1", a, x, 1, 32)
	adds(t, x, "\x00", 2)
	adds(t, x, wire("www A"), 3)
	adds(t, x, wire("wwwA"), 4)
	adds(t, x, "\x00", 2)
	adds(t, x, wire("WWW a"), 3)
	adds(t, x, wire("wWw A"), 3)
	there(t, "P7.1", a, x, "\x00", 2, 2)
	there(t, "P7.1", a, x, wire("www a"), 3, 3)
	there(t, "P7.1", a, x, wire("wwwa"), 4, 1)
	there(t, "P7.1", a, x, wire("a"), 1, 2)
	rooms(t, "P7.1", a, x, 4, 128)
	// What folds to another is another one, however much it looks alike.
	id := 5
	for _, n := range []string{"\x03a\x01b\x00", "\x01a\x01b\x00", "\x01b\x01a\x00", "\x01@\x00", "\x01`\x00", "\x01[\x00", "\x01{\x00", "\x01\xc1\x00", "\x01\xe1\x00", "\x01\x00\x00", "\x02\x00\x00\x00", "\x02\xc3\x84\x00", "\x02\xc3\xa4\x00"} {
		adds(t, x, n, id)
		there(t, "P7.1", a, x, n, id, 1)
		id++
	}
	for c := range 256 {
		n := string([]byte{1, byte(c), 0})
		if id, ok := x.Find(n); ok != slices.Contains([]byte("Aa@`[{\x00\xc1\xe1"), byte(c)) {
			t.Errorf("P7.1 Find(%q): got %d %v", n, id, ok)
		}
	}
}

func TestAddBad(t *testing.T) {
	a, x := made(t, 1024)
	adds(t, x, wire("x"), 1)
	adds(t, x, wire("a"), 2)
	for _, n := range wrong() {
		refused(t, "P7.1 what is no name", x, n, api.ErrBad)
		noName(t, "P7.1 what is no name", x, n)
		is(t, "P7.1 Cost of what is no name", x.Cost(n), 0)
	}
	rooms(t, "P7.1 behind ErrBad", a, x, 2, 64)
	adds(t, x, wire("b"), 3)
	// If all is full, what is no name is told first.
	adds(t, x, ofBytes(255, "a"), 4)
	adds(t, x, ofBytes(200, "a"), 5)
	adds(t, x, ofBytes(100, "a"), 6)
	adds(t, x, wire("c"), 7)
	rooms(t, "P7.1 full", a, x, 7, 1024)
	refused(t, "P7.1 both", x, "x", api.ErrBad)
	refused(t, "P7.1 full", x, "\x00", api.ErrFull)
}

// Each size that a name has: the block is of as many bytes as it has and 8.
func TestSizes(t *testing.T) {
	a, x := made(t, 2048)
	for size := 1; size <= 255; size++ {
		if size == 2 { // no name
			continue
		}
		n := ofBytes(size, "Z")
		what := fmt.Sprintf("P7.1 a name of %d bytes", size)
		is(t, what+": Cost", x.Cost(n), arena.Cost(size+8))
		adds(t, x, n, 1)
		there(t, what, a, x, n, 1, 1)
		rooms(t, what, a, x, 1, costOf(n))
		drops(t, x, 1)
		rooms(t, what+", dropped", a, x, 0, 0)
	}
}

func TestAddFull(t *testing.T) {
	for _, size := range []int{3, 16, 17, 48, 49, 112, 113, 240, 241, 255} {
		full := ofBytes(size, "Z")
		named := func(h int) string { return full[:1] + "abcdefghijklmnopqrstuvwxyz0123456789"[h:h+1] + full[2:] }
		what := fmt.Sprintf("P7.1 names of %d bytes", size)
		a, x := made(t, 1055)
		cost := costOf(named(1))
		most := 1055 / cost
		for h := 1; h <= most; h++ {
			is(t, what, len(named(h)), size)
			adds(t, x, named(h), h)
		}
		refused(t, what, x, named(0), api.ErrFull)
		is(t, what+": Cost without room", x.Cost(named(0)), cost)
		rooms(t, what+", full", a, x, most, most*cost)
		noName(t, what+", full", x, named(0))
		noID(t, what+", full", x, most+1)
		// What is there needs no room.
		adds(t, x, strings.ToUpper(named(most)), most)
		adds(t, x, named(1), 1)
		there(t, what+", full", a, x, named(most), most, 2)
		// One use less makes none, the last one does.
		drops(t, x, most)
		refused(t, what, x, named(0), api.ErrFull)
		drops(t, x, most)
		adds(t, x, named(0), most)
		refused(t, what, x, named(most), api.ErrFull)
		for h := 2; h < most; h++ {
			there(t, what, a, x, named(h), h, 1)
		}
	}
}

// Room that lies here and there is room.
func TestAddMoves(t *testing.T) {
	a, x := made(t, 1024)
	for h := range 32 {
		adds(t, x, wire(fmt.Sprint("n", h)), h+1)
	}
	refused(t, "P7.1 full", x, "\x00", api.ErrFull)
	for h := 0; h < 32; h += 2 {
		drops(t, x, h+1)
	}
	adds(t, x, ofBytes(255, "x"), 1)
	rooms(t, "P7.1 full again", a, x, 17, 1024)
	for h := 1; h < 32; h += 2 {
		there(t, "P7.1 what was moved", a, x, wire(fmt.Sprint("N", h)), h+1, 1)
	}
	there(t, "P7.1 what moved it", a, x, ofBytes(255, "x"), 1, 1)
	drops(t, x, 1)
	is(t, "Compact", a.Compact(), 512)
	for h := 1; h < 32; h += 2 {
		there(t, "P7.1 what was moved", a, x, wire(fmt.Sprint("N", h)), h+1, 1)
	}
}

func TestDrop(t *testing.T) {
	a, x := made(t, 1024)
	for range 3 {
		adds(t, x, wire("a b"), 1)
	}
	adds(t, x, wire("b"), 2)
	for left := 2; left > 0; left-- {
		drops(t, x, 1)
		there(t, "P7.1 one use less", a, x, wire("A B"), 1, left)
		rooms(t, "P7.1 one use less", a, x, 2, 64)
	}
	drops(t, x, 1)
	gone := func(what string) {
		t.Helper()
		noName(t, what, x, wire("a b"))
		noID(t, what, x, 1)
		is(t, what+": Cost", x.Cost(wire("a b")), 32)
		there(t, what, a, x, wire("b"), 2, 1)
		rooms(t, what, a, x, 1, 32)
	}
	gone("P7.1 none left")
	_, ok := a.Size(1)
	is(t, "P7.1 its block", ok, false)
	for _, id := range append(far(), 1, 3, 4, 64, 65) {
		is(t, fmt.Sprintf("P7.1 Drop(%d)", id), x.Drop(id), api.ErrNone)
	}
	gone("P7.1 behind ErrNone")
	// Its id is another's then, and its own again.
	adds(t, x, wire("c"), 1)
	there(t, "P7.1 another", a, x, wire("c"), 1, 1)
	adds(t, x, wire("a b"), 3)
	there(t, "P7.1 once more", a, x, wire("a b"), 3, 1)
	drops(t, x, 2, 1, 3)
	rooms(t, "P7.1 all gone", a, x, 0, 0)
	adds(t, x, wire("a b"), 1)
}

func TestUses(t *testing.T) {
	a, x := made(t, 1024)
	adds(t, x, wire("a"), 1)
	const most = 70000 // more than two bytes hold
	for uses := 1; uses <= most; uses++ {
		adds(t, x, []string{wire("b"), wire("B")}[uses%2], 2)
		if got := x.Uses(2); got != uses {
			t.Fatalf("P7.1 Uses: got %d, want %d", got, uses)
		}
	}
	there(t, "P7.1 many uses", a, x, wire("b"), 2, most)
	rooms(t, "P7.1 many uses", a, x, 2, 64)
	for uses := most; uses > 0; uses-- {
		if got, e := x.Uses(2), x.Drop(2); got != uses || e != api.OK {
			t.Fatalf("P7.1 Uses, Drop: got %d %d, want %d", got, e, uses)
		}
	}
	noID(t, "P7.1 no use", x, 2)
	there(t, "P7.1 the other one", a, x, wire("a"), 1, 1)
}

func TestCost(t *testing.T) {
	a, x := made(t, 1024)
	for n, want := range map[string]int{"\x00": 32, wire("a"): 32, ofBytes(16, "a"): 32, ofBytes(17, "a"): 64, ofBytes(48, "a"): 64, ofBytes(49, "a"): 128, ofBytes(112, "a"): 128, ofBytes(113, "a"): 256, ofBytes(240, "a"): 256, ofBytes(241, "a"): 512, ofBytes(255, "a"): 512} {
		is(t, fmt.Sprintf("P7.1 Cost of %d bytes", len(n)), x.Cost(n), want)
		is(t, fmt.Sprintf("P7.1 Cost of %d bytes, in capitals", len(n)), x.Cost(strings.ToUpper(n)), want)
	}
	rooms(t, "P7.1 behind Cost", a, x, 0, 0)
	adds(t, x, wire("a"), 1)
	is(t, "P7.1 Cost of what is there", []int{x.Cost(wire("a")), x.Cost(wire("A")), x.Cost(wire("a a"))}, []int{0, 0, 32})
	there(t, "P7.1 behind Cost", a, x, wire("a"), 1, 1)
	drops(t, x, 1)
	is(t, "P7.1 Cost of what was there", x.Cost(wire("A")), 32)
}

// What others have in the arena is no name, whatever stands in it.
func TestOthers(t *testing.T) {
	a, x := made(t, 2048)
	adds(t, x, wire("a"), 1)
	adds(t, x, wire("b"), 2)
	own, _ := a.Read(1, 0, 11)
	for h, b := range [][]byte{own, {}, {1}, make([]byte, 8), make([]byte, 9), []byte(wire("a")), append(make([]byte, 8), wire("c")...), append(own[:8:8], wire("c")...), make([]byte, 300)} {
		id, _ := a.Alloc(len(b))
		is(t, "another's block", id, h+3)
		a.Write(id, 0, b)
		noID(t, fmt.Sprintf("P7.1 a block of another's, %q", b), x, id)
		again, e := a.Read(id, 0, len(b))
		is(t, "P7.2 another's block", []any{string(again), e}, []any{string(b), api.OK})
	}
	noName(t, "P7.1 others' blocks", x, wire("c"))
	is(t, "P7.1 others' blocks", x.Count(), 2)
	there(t, "P7.1 beside others' blocks", a, x, wire("a"), 1, 1)
	there(t, "P7.1 beside others' blocks", a, x, wire("b"), 2, 1)
	// A block that is in a name's place, when that is gone.
	drops(t, x, 1)
	a.Alloc(11)
	a.Write(1, 0, own)
	noID(t, "P7.1 another's in its place", x, 1)
	noName(t, "P7.1 another's in its place", x, wire("a"))
	adds(t, x, wire("a"), 12)
	noID(t, "P7.1 another's in its place", x, 1)
	there(t, "P7.1 beside others' blocks", a, x, wire("a"), 12, 1)
}

// Two tables in one arena have nothing else in common.
func TestTwo(t *testing.T) {
	a, x := made(t, 1024)
	y := intern.New(a)
	adds(t, x, wire("a"), 1)
	adds(t, y, wire("a"), 2)
	adds(t, y, wire("A"), 2)
	adds(t, y, wire("b"), 3)
	adds(t, x, wire("c"), 4)
	there(t, "P7.2 one of two", a, x, wire("a"), 1, 1)
	there(t, "P7.2 the other of two", a, y, wire("a"), 2, 2)
	noID(t, "P7.2 one of two", x, 2)
	noID(t, "P7.2 the other of two", y, 1)
	noID(t, "P7.2 the other of two", y, 4)
	noName(t, "P7.2 one of two", x, wire("b"))
	noName(t, "P7.2 the other of two", y, wire("c"))
	is(t, "P7.2 both", []int{x.Count(), y.Count(), a.Used()}, []int{2, 2, 128})
	drops(t, x, 1)
	there(t, "P7.2 the other of two", a, y, wire("a"), 2, 2)
	// And those of two arenas have none.
	b, z := made(t, 1024)
	adds(t, z, wire("a"), 1)
	drops(t, y, 2, 2, 3)
	there(t, "P7.2 of another arena", b, z, wire("a"), 1, 1)
}

func TestNil(t *testing.T) {
	var none *intern.Table
	for _, x := range []*intern.Table{none, intern.New(nil)} {
		for _, n := range wrong() {
			refused(t, "P7.1 a nil one", x, n, api.ErrBad)
			noName(t, "P7.1 a nil one", x, n)
			is(t, "P7.1 a nil one: Cost", x.Cost(n), 0)
		}
		for _, n := range []string{"\x00", wire("a"), ofBytes(255, "a")} {
			refused(t, "P7.1 a nil one", x, n, api.ErrFull)
			noName(t, "P7.1 a nil one", x, n)
			is(t, "P7.1 a nil one: Cost, be there room or not", x.Cost(n), costOf(n))
		}
		for _, id := range append(far(), 1, 2) {
			noID(t, "P7.1 a nil one", x, id)
		}
		is(t, "P7.1 a nil one: Count", x.Count(), 0)
	}
}

// What was handed in is not kept, what is answered is new.
func TestMemory(t *testing.T) {
	a, x := made(t, 1024)
	b := []byte(wire("Ab Cd"))
	n := unsafe.String(unsafe.SliceData(b), len(b))
	adds(t, x, n, 1)
	x.Find(n)
	x.Cost(n)
	is(t, "P7.2 what was handed in", string(b), wire("Ab Cd"))
	clear(b)
	there(t, "P7.2 what was handed in", a, x, wire("ab cd"), 1, 1)
	told, _ := x.Name(1)
	again, _ := x.Name(1)
	drops(t, x, 1)
	adds(t, x, wire("xx yy"), 1)
	is(t, "P7.2 what was answered", []string{told, again}, []string{wire("ab cd"), wire("ab cd")})
	if unsafe.StringData(told) == unsafe.StringData(again) {
		t.Error("P7.2 what is answered is not new")
	}
}

// Who has the arena may do what he likes to a table's blocks: it still ends, and does not panic.
func TestMisuse(t *testing.T) {
	for seed := range 300 {
		a, x := made(t, 1024)
		all := []string{}
		for i := range 28 { // chains of several names are among these
			all = append(all, wire(fmt.Sprint("n", i)))
			x.Add(all[i])
		}
		for i := range 28 {
			switch id := 1 + (i*seed+seed/3)%29; seed % 4 {
			case 0:
				a.Write(id, 4, []byte{0, 0, 0, byte(1 + (i+seed)%29)}) // rings, and others' blocks
			case 1:
				a.Write(id, 0, []byte{255, 255, 255, 255, 255, byte(seed), 255, 255, byte(i), byte(i)})
			case 2:
				a.Write(id, 0, make([]byte, 8))
			case 3:
				a.Free(id)
				if i%3 == 0 {
					a.Alloc((i * seed) % 40)
				}
			}
			if i%9 < 5 {
				continue
			}
			for id := range 33 {
				x.Name(id)
				x.Uses(id)
				if (id+seed+i)%5 == 0 {
					x.Drop(id)
				}
			}
			for k, n := range all {
				x.Find(n)
				x.Cost(n)
				if (k+seed+i)%3 == 0 {
					x.Add(n)
				}
			}
		}
		if x.Count() < 0 || a.Left() < 0 {
			t.Errorf("P7.1 Count, Left: got %d %d", x.Count(), a.Left())
		}
	}
}
