package name_test

import (
	"fmt"
	"math/rand"
	"strings"
	"testing"
	"unsafe"

	"freshet/api"
	"freshet/name"
)

// is compares what was told.
func is(t *testing.T, what string, got, want any) {
	t.Helper()
	if fmt.Sprintf("%T%#v", got, got) != fmt.Sprintf("%T%#v", want, want) {
		t.Errorf("%s:\n got %#v\nwant %#v", what, got, want)
	}
}

// wire is the name of labels, each a part of s between blanks; without any check, and without the package's help.
func wire(s string) string {
	n := ""
	for _, l := range strings.Fields(s) {
		n += string([]byte{byte(len(l))}) + l
	}
	return n + "\x00"
}

// ofBytes is a name of so many bytes (2 or more, above 64: as few labels as can be).
func ofBytes(n int) string {
	out := ""
	for left := n - 1; left > 0; {
		most := min(left-1, api.MaxLabel)
		if left-1-most == 1 { // one byte alone is no label
			most--
		}
		out += string([]byte{byte(most)}) + strings.Repeat("a", most)
		left -= most + 1
	}
	return out + "\x00"
}

// wrong is what is not a name.
func wrong() []string {
	l63, l64 := strings.Repeat("a", 63), strings.Repeat("a", 64)
	l := []string{
		"", "x", "a\x00", "\x01", "\x01a", "\x01A", "\x02a\x00", "\x02A\x00", "\x01a\x00\x00", "\x00\x00", "\x00\x01a\x00",
		"\x01a\x01b", "\x01A\x00x", "\x3f" + l63, "\x40" + l64 + "\x00", "\x41" + l64 + "a\x00", "\xc0\x00", "\xc0\x0c", "\x01a\xc0\x00",
		"\x80" + l64 + l64 + "\x00", "\xbf\x00", "\xff" + strings.Repeat("a", 253) + "\x00",
		ofBytes(256), ofBytes(257), ofBytes(300), strings.Repeat("\x01a", 127) + "\x01b\x00",
		strings.Repeat("\x01a", 1<<16) + "\x00", strings.Repeat("\x00", 255), strings.Repeat("A", 1<<16), "ABC.", "www.a.",
	}
	return l
}

// right is what is a name: ordinary ones, and the edges.
func right() []string {
	return []string{
		"\x00", wire("a"), wire("A"), wire("www A"), wire("www Example com"), wire("WWW example COM"), wire("b A"), wire("x b a"),
		wire(strings.Repeat("Z", 63)), ofBytes(254), ofBytes(255), strings.Repeat("\x01a", 127) + "\x00", strings.Repeat("\x01B", 126) + "\x00",
		"\x01\x00\x00", "\x02\x00\x00\x00", "\x03a\x01b\x00", "\x04a.b\\\x00", "\x05\xff\x80\x7f \t\x00", "\x02\xc0\x0c\x00", "\x01@\x00", "\x01`\x00",
	}
}

// some are names made by chance, of few letters: many of them end alike.
func some(seed int64, count int) []string {
	r := rand.New(rand.NewSource(seed))
	letters := "aAbBzZ_[@\x00\xff\x01"
	var l []string
	for range count {
		n := ""
		for range r.Intn(5) {
			label := ""
			for range 1 + r.Intn(3) {
				label += letters[r.Intn(len(letters)):][:1]
			}
			n += string([]byte{byte(len(label))}) + label
		}
		l = append(l, n+"\x00")
	}
	return l
}

// parts is the labels of what is a name, taken apart without the package's help.
func parts(n string) []string {
	l := []string{}
	for n[0] != 0 {
		l = append(l, n[1:1+int(n[0])])
		n = n[1+int(n[0]):]
	}
	return l
}

// shares tells whether two texts stand in one piece of memory.
func shares(a, b string) bool {
	if a == "" || b == "" {
		return false
	}
	x, y := uintptr(unsafe.Pointer(unsafe.StringData(a))), uintptr(unsafe.Pointer(unsafe.StringData(b)))
	return x < y+uintptr(len(b)) && y < x+uintptr(len(a))
}

// must is the name of a text.
func must(t *testing.T, s string) string {
	t.Helper()
	n, e := name.Parse(s)
	if e != api.OK {
		t.Fatalf("Parse(%q): %d", s, e)
	}
	return n
}
