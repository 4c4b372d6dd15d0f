package wname_test

import (
	"fmt"
	"math"
	"math/rand"
	"slices"
	"strings"
	"testing"

	"freshet/api"
	"freshet/wname"
)

func TestGet(t *testing.T) {
	b := "\x03www\x01A\x00\x01b\xc0\x04\xc0\x07\x02c.\xc0\x00\x00\xc0\x0b\xc0\x06"
	for _, c := range []struct {
		at   int
		n    string
		next int
	}{
		{0, "\x03www\x01A\x00", 7},
		{4, "\x01A\x00", 7},
		{6, "\x00", 7},
		{7, "\x01b\x01A\x00", 11},
		{9, "\x01A\x00", 11},
		{11, "\x01b\x01A\x00", 13},
		{13, "\x02c.\x03www\x01A\x00", 18},
		{18, "\x00", 19},
		{19, "\x01b\x01A\x00", 21}, // a pointer to a pointer
		{21, "\x00", 23},
	} {
		found(t, fmt.Sprintf("P2.1 Get at %d", c.at), []byte(b), c.at, c.n, c.next)
	}
}

func TestGetWrong(t *testing.T) {
	for _, c := range []struct {
		b    string
		at   int
		what string
	}{
		{"", 0, "nothing"},
		{"\x00", 1, "behind the end"},
		{"\x00", 2, "behind the end"},
		{"\x00", math.MaxInt, "behind the end"},
		{"\x00", -1, "ahead"},
		{"\x00", math.MinInt, "ahead"},
		{"\x01", 0, "cut off within a label"},
		{"\x02a", 0, "cut off within a label"},
		{"\x02a\x00", 0, "cut off behind a label"},
		{"\x01a", 0, "cut off behind a label"},
		{"\x3fa\x00", 0, "cut off within a label"},
		{"\xc0", 0, "cut off within a pointer"},
		{"\x00\xc0", 1, "cut off within a pointer"},
		{"\x00\x01a\xc0", 1, "cut off within a pointer"},
		{"\xc0\x00", 0, "to itself"},
		{"\x01a\xc0\x00", 0, "to where the part began"},
		{"\x01a\xc0\x02", 0, "to itself"},
		{"\x01a\xc0\x01", 0, "within the part"},
		{"\x02\x01\x00\xc0\x02", 0, "within the part"},
		{"\x02\x00\x00\xc0\x01", 0, "within the part"},
		{"\xc0\x02\x00", 0, "ahead of it"},
		{"\x00\xc0\x03\x00", 1, "ahead of it"},
		{"\xc0\x09", 0, "not within"},
		{"\x00\xff\xff", 1, "not within"},
		{"\x00\xc0\x02\x00", 1, "to its own second byte"},
		{"\x00\xc0\x00\x01a\xc0\x05", 3, "to itself"},
		{"\x01a\xc0\x04\x01b\x00\x01c\xc0\x00", 7, "back, and forth from there"},
		{"\x01a\xc0\x00\x01b\xc0\x00", 4, "back, and to where that part began"},
		{"\xc0\x02\xc0\x00", 2, "back, and forth from there"},
		{"\x01a\x40b\x00\xc0\x00", 5, "a wrong first byte on the way"},
		{"\x40a\x00\xc0\x00", 3, "a wrong first byte on the way"},
		{"\x02a\x00\x40\xc0\x00", 4, "a wrong first byte on the way"},
	} {
		refused(t, fmt.Sprintf("P2.1 %s: Get(%q, %d)", c.what, c.b, c.at), []byte(c.b), c.at)
	}
	refused(t, "P2.1 Get of nil", nil, 0)
	// A part within a part that is longer is one of its own: what counts is where it began.
	found(t, "P2.1 Get", []byte("\x00\x03\x01a\x00\x01b\xc0\x02"), 5, "\x01b\x01a\x00", 9)
	refused(t, "P2.1 Get", []byte("\x00\x03\x01a\xc0\x01\x01b\xc0\x02"), 6)
	found(t, "P2.1 Get", []byte("\x00\x05\x01a\xc0\x00b\x00\x01b\xc0\x02"), 8, "\x01b\x01a\x00", 12)
	found(t, "P2.1 Get", []byte("\x00\x05\x01a\xc0\x00b\x00\x01b\xc0\x01"), 8, "\x01b\x05\x01a\xc0\x00b\x00", 12)
}

func TestGetFirstBytes(t *testing.T) {
	for c := range 256 {
		b := []byte("\x00" + string([]byte{byte(c)}) + strings.Repeat("a", c) + "\x00")
		what := fmt.Sprintf("P2.1 Get of first byte %d", c)
		switch {
		case c == 0:
			found(t, what, b, 1, "\x00", 2)
		case c <= 63:
			found(t, what, b, 1, string(b[1:]), c+3)
		default:
			refused(t, what, b, 1) // of the pointers each goes behind its own place
		}
		// The same, to the root: all of the fourteen lower digits are a place.
		at := (c&63)<<8 | 7
		far := append(append(make([]byte, at), "\x01x\x00"...), byte(c), 7)
		what = fmt.Sprintf("P2.1 Get of a pointer of first byte %d", c)
		if c >= 192 {
			found(t, what, far, at+3, "\x01x\x00", at+5)
		} else if c >= 64 {
			refused(t, what, far, at+3)
		}
	}
	// The last place to which a pointer goes.
	b := append(append(make([]byte, 16383), "\x01x\x00\x01y"...), 0xff, 0xff)
	found(t, "P2.1 Get of the last place", b, 16386, "\x01y\x01x\x00", 16390)
}

func TestGetLong(t *testing.T) {
	long := longest()
	found(t, "P2.1 Get of 255 bytes", []byte(long), 0, long, 255)
	found(t, "P2.1 Get of 255 bytes", []byte("\x01e"+long), 2, long, 257)
	refused(t, "P2.1 Get of 257 bytes", []byte("\x01e"+long), 0)
	most := strings.Repeat("\x01a", 127) + "\x00"
	found(t, "P2.1 Get of 127 labels", []byte(most), 0, most, 255)
	refused(t, "P2.1 Get of 128 labels", []byte("\x01a"+most), 0)
	// A label of 62 more at the end: 256.
	refused(t, "P2.1 Get of 256 bytes", []byte(long[:192]+"\x3e"+strings.Repeat("d", 62)+"\x00"), 0)
	// The same by pointers, up to the last byte: what is ahead of a pointer counts, too.
	for size := 1; size <= 63; size++ {
		b := []byte(long[64:] + string([]byte{byte(size)}) + strings.Repeat("e", size) + "\xc0\x00")
		if n := string(b[191:192+size]) + long[64:]; len(n) <= api.MaxName {
			found(t, fmt.Sprintf("P2.1 Get of %d bytes, with a pointer", len(n)), b, 191, n, 194+size)
		} else {
			refused(t, fmt.Sprintf("P2.1 Get of %d bytes, with a pointer", len(n)), b, 191)
		}
	}
	b := []byte(long[64:] + "\x3f" + strings.Repeat("e", 63) + "\xc0\x00\xc0\xbf\x01f\xc1\x01")
	found(t, "P2.1 Get of 255 bytes, pointer to pointer", b, 257, "\x3f"+strings.Repeat("e", 63)+long[64:], 259)
	refused(t, "P2.1 Get of 257 bytes, pointer to pointer", b, 259)
	refused(t, "P2.1 Get of much", []byte(strings.Repeat(long[:64], 1<<14)+"\x00"), 0)
	refused(t, "P2.1 Get of many", []byte(strings.Repeat("\x01a", 1<<20)+"\x00"), 0)
}

// A walk may go by as many pointers as there are places: it has an end all the same.
func TestGetManyPointers(t *testing.T) {
	b := []byte("\x01a\x00")
	for len(b) < 16384 {
		to := max(0, len(b)-2)
		if len(b) == 3 {
			to = 0
		}
		b = append(b, 0xc0|byte(to>>8), byte(to))
	}
	for at := 3; at < len(b); at += 2 {
		n, next, e := wname.Get(b, at)
		if n != "\x01a\x00" || next != at+2 || e != api.OK {
			t.Fatalf("P2.1 Get at %d of many pointers: %q %d %d", at, n, next, e)
		}
	}
	// Label by label back: as many as a name has room for.
	b = []byte("\x00")
	for at := 0; len(b) < 1000; {
		to := at
		at = len(b)
		b = append(b, 1, 'x', 0xc0|byte(to>>8), byte(to))
		labels := (len(b) - 1) / 4
		what := fmt.Sprintf("P2.1 Get of %d labels and as many pointers", labels)
		if labels <= 127 {
			found(t, what, b, at, strings.Repeat("\x01x", labels)+"\x00", at+4)
		} else {
			refused(t, what, b, at)
		}
	}
}

// read is Get, told once more: part by part.
func read(b []byte, at int) (n string, next int, ok bool) {
	for i := at; ; {
		switch {
		case i < 0 || i >= len(b):
			return "", 0, false
		case b[i] == 0:
			return n + "\x00", i + 1, true
		case b[i] < 64:
			if i+1+int(b[i]) > len(b) {
				return "", 0, false
			}
			n += string(b[i : i+1+int(b[i])])
			i += 1 + int(b[i])
		case b[i] < 192 || i+2 > len(b):
			return "", 0, false
		default:
			to := int(b[i])*256 + int(b[i+1]) - 192*256
			if to >= at {
				return "", 0, false
			}
			rest, _, ok := read(b, to)
			if !ok {
				return "", 0, false
			}
			return n + rest, i + 2, true
		}
	}
}

// asRead holds that Get answers at all places as read does, and that what is handed in stays.
func asRead(t *testing.T, b []byte) {
	t.Helper()
	before := slices.Clone(b)
	for at := -1; at <= len(b)+1; at++ {
		x, y, e := wname.Get(b, at)
		n, next, ok := read(b, at)
		if !ok || len(n) > api.MaxName {
			n, next = "", 0
		}
		if x != n || y != next || (e == api.OK) != (n != "") || e != api.OK && e != api.ErrBad {
			t.Fatalf("P2.1 Get(%q, %d): got %q %d %d, want %q %d", b, at, x, y, e, n, next)
		}
	}
	if !slices.Equal(b, before) {
		t.Fatalf("P2.3 Get changed %q", before)
	}
}

func TestGetByChance(t *testing.T) {
	r := rand.New(rand.NewSource(1))
	bytes := []byte{0, 0, 1, 1, 2, 3, 5, 'a', 'B', 192, 192, 192, 193, 255, 63, 64, 128, 191}
	for range 20000 {
		b := make([]byte, r.Intn(24))
		for i := range b {
			b[i] = bytes[r.Intn(len(bytes)-r.Intn(6))]
		}
		asRead(t, b)
	}
	// All there is of few bytes.
	few := []byte{0, 1, 2, 64, 192, 191, 3}
	for count := range 7 * 7 * 7 * 7 * 7 {
		b := []byte{}
		for range 5 {
			b = append(b, few[count%7])
			count /= 7
		}
		asRead(t, b)
	}
}

func FuzzGet(f *testing.F) {
	f.Add([]byte("\x03www\x01a\x00\x01b\xc0\x04"))
	f.Fuzz(func(t *testing.T, b []byte) { asRead(t, b) })
}

func TestGetMemory(t *testing.T) {
	b := append(make([]byte, 0, 100), "\x01a\x00\x01b\xc0\x00"...)
	spare := b[:100]
	n, next, e := wname.Get(b, 3)
	is(t, "P2.1 Get", n, "\x01b\x01a\x00")
	is(t, "P2.1 Get", next, 7)
	is(t, "P2.1 Get", e, api.OK)
	is(t, "P2.3 what is handed in", string(spare), "\x01a\x00\x01b\xc0\x00"+strings.Repeat("\x00", 93))
	// What is behind the end is not read, whatever is there.
	copy(spare, "\x01a\x00\x01b\x00")
	refused(t, "P2.1 Get, cut off ahead of its spare room", spare[3:5], 0)
	refused(t, "P2.1 Get, cut off ahead of its spare room", spare[:1], 0)
	clear(spare)
	is(t, "P2.3 what is answered", n, "\x01b\x01a\x00")
}
