package pack_test

import (
	"fmt"
	"math"
	"slices"
	"strings"
	"testing"

	"freshet/api"
	"freshet/arena"
	"freshet/intern"
	"freshet/pack"
)

// is compares what was told.
func is(t *testing.T, what string, got, want any) {
	t.Helper()
	if fmt.Sprintf("%T%#v", got, got) != fmt.Sprintf("%T%#v", want, want) {
		t.Errorf("%s:\n got %#v\nwant %#v", what, got, want)
	}
}

// wire is the name of labels, each a part of s between blanks; without the help of package name.
func wire(s string) string {
	n := ""
	for _, l := range strings.Fields(s) {
		n += string([]byte{byte(len(l))}) + l
	}
	return n + "\x00"
}

// longest is a name of 255 bytes, all of whose letters are c.
func longest(c string) string {
	full := "\x3f" + strings.Repeat(c, 63)
	return full + full + full + "\x3d" + strings.Repeat(c, 61) + "\x00"
}

// wrong is what is not a name.
func wrong() []string {
	return []string{"", "x", "a.", "\x01", "\x01a", "\x02a\x00", "\x01a\x00\x00", "\x00\x00", "\xc0\x00", "\x01a\xc0\x00", "\x40" + strings.Repeat("a", 64) + "\x00", "\x01a" + longest("b"), strings.Repeat("\x01a", 1<<12) + "\x00"}
}

// far are numbers that are no handle anywhere.
func far() []int {
	return []int{-1, -2, 0, math.MinInt, math.MinInt + 1, math.MaxInt, 1<<16 + 1, 1 << 20, 1 << 31, 1 << 32, 1<<32 + 1, 1<<32 + 2, -1 << 32}
}

// small is bytes with A to Z as a to z, told once more.
func small(n string) string {
	b := []byte(n)
	for i, c := range b {
		if strings.IndexByte("ABCDEFGHIJKLMNOPQRSTUVWXYZ", c) >= 0 {
			b[i] = c + 32
		}
	}
	return string(b)
}

// costOf is what a block of so many bytes takes, told once more.
func costOf(n int) int {
	cost := 16
	for cost < n+8 {
		cost += cost
	}
	return cost
}

// cutName cuts a name off the head of data; without the program's help.
func cutName(d string) (n, rest string, ok bool) {
	for at := 0; at < len(d) && at < 255; {
		switch size := int(d[at]); {
		case size == 0:
			return d[:at+1], d[at+1:], true
		case size > 63:
			return "", "", false
		default:
			at += size + 1
		}
	}
	return "", "", false
}

// A piece is a part of data.
type piece struct {
	bytes  string
	isName bool
}

// pieces is data cut into its names and what is between them, told once more: B is a byte, N a name.
func pieces(kind int, d string) (l []piece, ok bool) {
	form, there := map[int]string{1: "BBBB", 2: "N", 5: "N", 6: "NNBBBBBBBBBBBBBBBBBBBB", 12: "N", 15: "BBN", 28: "BBBBBBBBBBBBBBBB", 33: "BBBBBBN"}[kind]
	if kind == 16 && !areTexts(d) || len(d) > 1000 {
		return nil, false
	}
	if !there {
		return []piece{{d, false}}, true
	}
	for _, p := range form {
		n := ""
		if p == 'B' && d != "" {
			n, d = d[:1], d[1:]
		} else if p == 'N' {
			n, d, _ = cutName(d)
		}
		if n == "" {
			return nil, false
		}
		l = append(l, piece{n, p == 'N'})
	}
	return l, d == ""
}

// areTexts is TXT's data, told once more: one string or more.
func areTexts(d string) bool {
	if d == "" {
		return false
	}
	for d != "" {
		size := int(d[0])
		if len(d) < 1+size {
			return false
		}
		d = d[1+size:]
	}
	return true
}

// isName tells whether all of n is one.
func isName(n string) bool {
	_, rest, ok := cutName(n)
	return ok && rest == ""
}

// told is Size, told once more, and all names that the set has.
func told(s api.Set) (size int, names []string, e api.Errno) {
	if !isName(s.Key.Name) || !isName(s.Zone) || s.Key.Type < 1 || s.Key.Type > 65535 || s.Kind < 0 || s.Kind > 2 {
		return 0, nil, api.ErrArg
	}
	if (s.Kind == 0) != (len(s.RRs) > 0) || len(s.RRs) > 32 {
		return 0, nil, api.ErrArg
	}
	size, names = 16, []string{s.Key.Name, s.Zone}
	for _, r := range s.RRs {
		l, ok := pieces(r.Type, r.Data)
		if !ok || small(r.Name) != small(s.Key.Name) || r.Type != s.Key.Type || r.Class != 1 {
			return 0, nil, api.ErrArg
		}
		size += 2
		for _, p := range l {
			if p.isName {
				size += 4
				names = append(names, p.bytes)
			} else {
				size += len(p.bytes)
			}
		}
	}
	if size > 4096 {
		return 0, nil, api.ErrBig
	}
	return size, names, api.OK
}

// folded is what Get has to tell of a set, told once more.
func folded(s api.Set) api.Set {
	out := api.Set{Key: api.Key{Name: small(s.Key.Name), Type: s.Key.Type}, Kind: s.Kind, Zone: small(s.Zone)}
	for _, r := range s.RRs {
		l, _ := pieces(r.Type, r.Data)
		d := ""
		for _, p := range l {
			if p.isName {
				d += small(p.bytes)
			} else {
				d += p.bytes
			}
		}
		out.RRs = append(out.RRs, api.RR{Name: out.Key.Name, Type: r.Type, Class: 1, Data: d})
	}
	return out
}

// set is records of one name and type, data by data.
func set(zone, n string, kind int, data ...string) api.Set {
	s := api.Set{Key: api.Key{Name: n, Type: kind}, Zone: zone}
	for _, d := range data {
		s.RRs = append(s.RRs, api.RR{Name: n, Type: kind, Class: 1, Data: d})
	}
	return s
}

// none is that there is no such type (1), or no such name (2).
func none(zone, n string, kind, t int) api.Set {
	return api.Set{Key: api.Key{Name: n, Type: t}, Kind: kind, Zone: zone}
}

// several are sets that may be, of each type and each kind.
func several() []api.Set {
	n := wire("Www A")
	return []api.Set{
		set("\x00", "\x00", api.A, "\x01\x02\x03\x04"),
		set(wire("A"), n, api.A, "\x01\x02\x03\x04", "ABCD", "\x00\x00\x00\x00"),
		set(wire("a"), n, api.AAAA, strings.Repeat("Z", 16)),
		set("\x00", wire("a"), api.NS, wire("NS a"), wire("ns B"), "\x00"),
		set(wire("a"), n, api.CNAME, wire("WWW a")),
		set(wire("a"), wire("a"), api.SOA, wire("A")+wire("Admin a")+"ABCDEFGHIJKLMNOPQRST"),
		set(wire("a"), "\x00", api.SOA, strings.Repeat("\x00", 22), "\x00"+longest("Q")+strings.Repeat("\xff", 20)),
		set(wire("a"), n, api.PTR, longest("P"), longest("p")),
		set(wire("a"), n, api.MX, "AB"+wire("Mx a"), "CD"+wire("mx a"), "\x01b\x00"),
		set(wire("a"), n, api.TXT, "\x02Ab\x00", "\x00", "\x01A\x03\x01A\x00"),
		set(wire("a"), n, api.SRV, "ABCDEF"+wire("Srv"), "abcdef\x00"),
		set(wire("a"), n, 99, "", wire("Not A name"), "\x00\x00\x00\x01"),
		set(wire("a"), n, api.OPT, ""),
		set(longest("Z"), longest("K"), 65535, strings.Repeat("Ab", 500)),
		set(wire("a"), n, 1, slices.Repeat([]string{"same"}, 32)...),
		none(wire("A"), n, 1, api.MX),
		none(wire("a"), wire("nO a"), 2, 255),
		none("\x00", "\x00", 1, 1),
		none("\x00", "\x00", 2, 65535),
	}
}

// made is an arena of so many bytes, and a table in it.
func made(t *testing.T, budget int) (*arena.Arena, *intern.Table) {
	t.Helper()
	a, e := arena.New(budget)
	if e != api.OK {
		t.Fatalf("arena.New(%d): %d", budget, e)
	}
	return a, intern.New(a)
}

// puts holds that a set is put, under that handle.
func puts(t *testing.T, what string, a *arena.Arena, x *intern.Table, s api.Set, want int) {
	t.Helper()
	h, e := pack.Put(a, x, s)
	if h != want || e != api.OK {
		t.Fatalf("%s: Put: got %d %d, want %d", what, h, e, want)
	}
}

// refused holds that a set is not put.
func refused(t *testing.T, what string, a *arena.Arena, x *intern.Table, s api.Set, want api.Errno) {
	t.Helper()
	h, e := pack.Put(a, x, s)
	is(t, what+": Put", []any{h, e}, []any{0, want})
}

// has holds that a handle is that of a set.
func has(t *testing.T, what string, a *arena.Arena, x *intern.Table, h int, s api.Set) {
	t.Helper()
	got, e := pack.Get(a, x, h)
	is(t, fmt.Sprintf("%s: Get(%d)", what, h), []any{got, e}, []any{folded(s), api.OK})
	size, _, _ := told(s)
	n, _ := a.Size(h)
	is(t, fmt.Sprintf("%s: the size of block %d", what, h), n, size)
}

// hasNone holds that a handle is no set's.
func hasNone(t *testing.T, what string, a *arena.Arena, x *intern.Table, h int) {
	t.Helper()
	s, e := pack.Get(a, x, h)
	is(t, fmt.Sprintf("%s: Get, Drop of %d", what, h), []any{s, e, pack.Drop(a, x, h)}, []any{api.Set{}, api.ErrNone, api.ErrNone})
}

// drops holds that a set goes.
func drops(t *testing.T, what string, a *arena.Arena, x *intern.Table, h int) {
	t.Helper()
	is(t, fmt.Sprintf("%s: Drop(%d)", what, h), pack.Drop(a, x, h), api.OK)
	hasNone(t, what+", gone", a, x, h)
}

// rooms holds how many names there are, and what is used of the arena.
func rooms(t *testing.T, what string, a *arena.Arena, x *intern.Table, count, used int) {
	t.Helper()
	is(t, what+": Count, Used", []int{x.Count(), a.Used()}, []int{count, used})
}

// uses holds the names by their ids, from 1 on, and how often each is used (0: it is not there).
func uses(t *testing.T, what string, x *intern.Table, names []string, want ...int) {
	t.Helper()
	got := []int{}
	for i, n := range names {
		got = append(got, x.Uses(i+1))
		if id, ok := x.Find(n); ok && id != i+1 {
			t.Errorf("%s: %q is %d", what, n, id)
		}
	}
	is(t, what+": Uses", got, want)
}
