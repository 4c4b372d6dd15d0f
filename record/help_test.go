package record_test

import (
	"fmt"
	"math/rand"
	"strings"
	"testing"
	"unsafe"

	"freshet/api"
	"freshet/record"
)

// is compares what was told.
func is(t *testing.T, what string, got, want any) {
	t.Helper()
	if fmt.Sprintf("%T%#v", got, got) != fmt.Sprintf("%T%#v", want, want) {
		t.Errorf("%s:\n got %#v\nwant %#v", what, got, want)
	}
}

// wire is the name of labels, each a part of s between blanks; without any check, and without the program's help.
func wire(s string) string {
	n := ""
	for _, l := range strings.Fields(s) {
		n += string([]byte{byte(len(l))}) + l
	}
	return n + "\x00"
}

// longest is a name of 255 bytes.
func longest() string {
	return wire(strings.Repeat("a", 63) + " " + strings.Repeat("B", 63) + " " + strings.Repeat("c", 63) + " " + strings.Repeat("D", 61))
}

// tooLong is what would be a name, were it not of 256 bytes.
func tooLong() string {
	return wire(strings.Repeat("a", 63) + " " + strings.Repeat("B", 63) + " " + strings.Repeat("c", 63) + " " + strings.Repeat("D", 62))
}

// wrong is what is not a name.
func wrong() []string {
	return []string{
		"", "x", "a\x00", "\x01", "\x01a", "\x02a\x00", "\x01a\x00\x00", "\x00\x00", "\xc0\x00", "\xc0\x0c", "\x01a\xc0\x00", "www.a.", "ABC",
		"\x40" + strings.Repeat("a", 64) + "\x00", strings.Repeat("\x01a", 128) + "\x00", tooLong(), "\x80\x00", "\xff" + strings.Repeat("\x00", 256),
		strings.Repeat("a", 1<<16), strings.Repeat("\x01a", 1<<16) + "\x00",
	}
}

// right is what is a name.
func right() []string {
	return []string{"\x00", wire("a"), wire("www A"), wire("Ns1 Example com"), longest(), strings.Repeat("\x01a", 127) + "\x00", wire(strings.Repeat("Z", 63)), "\x03a\x00b\x00", "\x02\xc0\x0c\x00"}
}

// types are all that the chapter names, and some others.
func types() []int {
	return []int{
		api.A, api.NS, api.CNAME, api.SOA, api.PTR, api.MX, api.TXT, api.AAAA, api.SRV, api.OPT,
		0, 3, 4, 7, 11, 13, 14, 17, 27, 29, 32, 34, 40, 42, 99, 255, 256, 257, 65535, 65536, -1, -2, 1 << 40, -1 << 40,
	}
}

// A place is where a name stands in data, and how many bytes it has.
type place struct{ at, n int }

// cutName cuts a name off the head of data; without the program's help.
func cutName(d string) (n, rest string, ok bool) {
	for at := 0; at < len(d) && at < 255; {
		switch size := int(d[at]); {
		case size == 0:
			return d[:at+1], d[at+1:], true
		case size > 63:
			return "", "", false
		default:
			at += size + 1
		}
	}
	return "", "", false
}

// told is Data and Names, told once more: data is cut into pieces.
func told(t int, d string) (names []place, ok bool) {
	if len(d) > 1000 {
		return nil, false
	}
	// B is a byte, N a name.
	pieces := map[int]string{1: "BBBB", 2: "N", 5: "N", 6: "NNBBBBBBBBBBBBBBBBBBBB", 12: "N", 15: "BBN", 28: "BBBBBBBBBBBBBBBB", 33: "BBBBBBN"}
	if t == 16 {
		return nil, areTexts(d)
	}
	form, there := pieces[t]
	if !there {
		return nil, true
	}
	rest := d
	for _, p := range form {
		if p == 'B' {
			if rest == "" {
				return nil, false
			}
			rest = rest[1:]
			continue
		}
		n, behind, ok := cutName(rest)
		if !ok {
			return nil, false
		}
		names, rest = append(names, place{len(d) - len(rest), len(n)}), behind
	}
	if rest != "" {
		return nil, false
	}
	return names, true
}

// areTexts is TXT's data, told once more: one string or more.
func areTexts(d string) bool {
	if d == "" {
		return false
	}
	for d != "" {
		size := int(d[0])
		if len(d) < 1+size {
			return false
		}
		d = d[1+size:]
	}
	return true
}

// places is what Names walks over.
func places(t int, d string) []place {
	var l []place
	for at, n := range record.Names(t, d) {
		l = append(l, place{at, n})
	}
	return l
}

// asTold holds what Data and Names answer to what is told of it.
func asTold(t *testing.T, kind int, d string) {
	t.Helper()
	names, ok := told(kind, d)
	if got := record.Data(kind, d); got != ok {
		t.Errorf("P3.1 Data(%d, %.300q): %v", kind, d, got)
	}
	if got := places(kind, d); fmt.Sprint(got) != fmt.Sprint(names) {
		t.Errorf("P3.1 Names(%d, %.300q):\n got %v\nwant %v", kind, d, got, names)
	}
}

// someName is a name made by chance: of few letters, so that many are alike but for their letters' size.
func someName(r *rand.Rand) string {
	n := "\x00"
	for range r.Intn(3) {
		l := string("aAbB\x00"[r.Intn(5)])
		n = string([]byte{byte(len(l))}) + l + n
	}
	return n
}

// some is data made by chance: mostly what may be, of that type.
func some(r *rand.Rand, kind int) string {
	bytes := func(n int) string { return strings.Repeat(string("aA\x00"[r.Intn(3)]), n) }
	d := ""
	switch kind {
	case api.A:
		d = bytes(4)
	case api.AAAA:
		d = bytes(16)
	case api.NS, api.CNAME, api.PTR:
		d = someName(r)
	case api.MX:
		d = bytes(2) + someName(r)
	case api.SRV:
		d = bytes(6) + someName(r)
	case api.SOA:
		d = someName(r) + someName(r) + bytes(20)
	case api.TXT:
		for range 1 + r.Intn(3) {
			n := r.Intn(4)
			d += string([]byte{byte(n)}) + bytes(n)
		}
	default:
		d = bytes(r.Intn(5))
	}
	return d
}

// spoilt is data of which something was cut off, added or changed.
func spoilt(r *rand.Rand, d string) string {
	at := r.Intn(len(d) + 1)
	c := string([]byte{[]byte{0, 1, 2, 3, 63, 64, 'A', 'a', 192, 255}[r.Intn(10)]})
	switch {
	case at == len(d) || r.Intn(3) == 0:
		return d[:at] + c + d[at:]
	case r.Intn(2) == 0:
		return d[:at] + d[at+1:]
	}
	return d[:at] + c + d[at+1:]
}

// shares tells whether two texts stand in one piece of memory.
func shares(a, b string) bool {
	if a == "" || b == "" {
		return false
	}
	x, y := uintptr(unsafe.Pointer(unsafe.StringData(a))), uintptr(unsafe.Pointer(unsafe.StringData(b)))
	return x < y+uintptr(len(b)) && y < x+uintptr(len(a))
}
