package record_test

import (
	"fmt"
	"math/rand"
	"strings"
	"testing"

	"freshet/api"
	"freshet/record"
)

func TestKnown(t *testing.T) {
	known := map[int]bool{1: true, 2: true, 5: true, 6: true, 12: true, 15: true, 16: true, 28: true, 33: true}
	for kind := -300; kind <= 66000; kind++ {
		if record.Known(kind) != known[kind] {
			t.Errorf("P3.1 Known(%d): %v", kind, !known[kind])
		}
	}
	for _, kind := range []int{1 << 32, 1<<32 + 1, -1 << 63, 1<<63 - 1} {
		is(t, fmt.Sprintf("P3.1 Known(%d)", kind), record.Known(kind), false)
	}
}

func TestDataOfSize(t *testing.T) {
	for size := range 40 {
		d := strings.Repeat("x", size)
		is(t, fmt.Sprintf("P3.1 Data of A, %d bytes", size), record.Data(api.A, d), size == 4)
		is(t, fmt.Sprintf("P3.1 Data of AAAA, %d bytes", size), record.Data(api.AAAA, d), size == 16)
	}
	for _, kind := range types() {
		for _, size := range []int{0, 1, 999, 1000, 1001, 1002, 1 << 16} {
			d := strings.Repeat("x", size)
			asTold(t, kind, d)
			if !record.Known(kind) {
				is(t, fmt.Sprintf("P3.1 Data of %d, %d bytes", kind, size), record.Data(kind, d), size <= 1000)
			}
		}
	}
}

func TestDataOfNames(t *testing.T) {
	ahead := map[int]string{api.NS: "", api.CNAME: "", api.PTR: "", api.MX: "\x00\x0a", api.SRV: "\x00\x01\x00\x02\x00\x35"}
	for kind, begin := range ahead {
		for _, n := range right() {
			what := fmt.Sprintf("P3.1 %d of %.40q", kind, n)
			is(t, what, record.Data(kind, begin+n), true)
			is(t, what, fmt.Sprint(places(kind, begin+n)), fmt.Sprint([]place{{len(begin), len(n)}}))
			is(t, what+", a byte more", record.Data(kind, begin+n+"\x00"), false)
			is(t, what+", a byte less", record.Data(kind, begin+n[:len(n)-1]), false)
			is(t, what+", a byte more ahead", record.Data(kind, "\xff"+begin+n), false)
		}
		for _, n := range wrong() {
			what := fmt.Sprintf("P3.1 %d of %.40q", kind, n)
			is(t, what, record.Data(kind, begin+n), false)
			is(t, what, len(places(kind, begin+n)), 0)
		}
		for size := range len(begin) + 1 {
			is(t, fmt.Sprintf("P3.1 %d, cut off at %d", kind, size), record.Data(kind, begin[:size]), false)
		}
	}
	is(t, "P3.1 a name of an other type is none", len(places(99, wire("a")))+len(places(api.TXT, "\x01a\x00"))+len(places(api.A, "\x02ab\x00"))+len(places(api.OPT, wire("a"))), 0)
}

func TestDataOfSOA(t *testing.T) {
	numbers := "ABCDEFGHIJKLMNOPQRST"
	for _, a := range right() {
		for _, b := range right() {
			what := fmt.Sprintf("P3.1 SOA of %.40q, %.40q", a, b)
			is(t, what, record.Data(api.SOA, a+b+numbers), true)
			is(t, what, fmt.Sprint(places(api.SOA, a+b+numbers)), fmt.Sprint([]place{{0, len(a)}, {len(a), len(b)}}))
			for _, d := range []string{a + b + numbers[1:], a + b + numbers + "x", a + b + numbers + numbers, a + b, a, a + numbers, numbers} {
				asTold(t, api.SOA, d)
			}
		}
	}
	for _, n := range []string{tooLong(), "\x40" + strings.Repeat("a", 64) + "\x00", "\xc0\x0c", "\x01a\xc0\x00"} {
		is(t, "P3.1 SOA, the first name is none", record.Data(api.SOA, n+"\x00"+numbers), false)
		is(t, "P3.1 SOA, the second name is none", record.Data(api.SOA, "\x00"+n+numbers), false)
		is(t, "P3.1 SOA, the second name is none", len(places(api.SOA, "\x00"+n+numbers)), 0)
	}
	is(t, "P3.1 SOA, nothing", record.Data(api.SOA, ""), false)
	is(t, "P3.1 SOA, the least", record.Data(api.SOA, strings.Repeat("\x00", 22)), true)
	is(t, "P3.1 SOA, less", record.Data(api.SOA, strings.Repeat("\x00", 21)), false)
}

func TestDataOfTXT(t *testing.T) {
	full := "\xff" + strings.Repeat("x", 255)
	last := "\xe7" + strings.Repeat("x", 231)
	for _, c := range []struct {
		d    string
		want bool
	}{
		{"", false},
		{"\x00", true},
		{"\x00\x00", true},
		{"\x01", false},
		{"\x01a", true},
		{"\x01ab", false},
		{"\x01a\x00", true},
		{"\x02a", false},
		{"\x02ab\x01c", true},
		{"\x02ab\x02c", false},
		{full, true},
		{full[:255], false},
		{full + "\x00", true},
		{full + full + full + last, true},      // 1000 bytes
		{full + full + full + last[1:], false}, // an x says how long it is
		{full + full + full + "\xe8" + last[1:], false},   // one is missing
		{full + full + full + last + "\x00", false},       // more than there may be
		{strings.Repeat("\x00", 1000), true},              // as many texts as there may be
		{strings.Repeat("\x00", 1001), false},             // one more
		{"\x00" + full + full + full + last[:232], false}, // more by one
	} {
		is(t, fmt.Sprintf("P3.1 Data of TXT, %d bytes: %.20q", len(c.d), c.d), record.Data(api.TXT, c.d), c.want)
		asTold(t, api.TXT, c.d)
	}
}

func TestNamesWalk(t *testing.T) {
	d := wire("a") + wire("b c") + strings.Repeat("\x00", 20)
	walk := record.Names(api.SOA, d)
	for range 2 {
		var l []place
		for at, n := range walk {
			l = append(l, place{at, n})
		}
		is(t, "P3.1 a walk", fmt.Sprint(l), "[{0 3} {3 5}]")
	}
	for most := 1; most <= 2; most++ {
		met := 0
		walk(func(at, n int) bool {
			met++
			return met < most
		})
		is(t, "P3.1 a walk that ends", met, most)
	}
	pairs := 0
	for range walk {
		for range walk {
			pairs++
		}
	}
	is(t, "P3.1 walks within a walk", pairs, 4)
	for range record.Names(0, "") {
		t.Error("P3.1 a walk over nothing")
	}
}

func TestDataByChance(t *testing.T) {
	r := rand.New(rand.NewSource(1))
	for _, kind := range types() {
		may := 0
		for range 3000 {
			d := some(r, kind)
			for range r.Intn(3) {
				d = spoilt(r, d)
			}
			asTold(t, kind, d)
			if record.Data(kind, d) {
				may++
			}
		}
		if may < 500 {
			t.Errorf("P3.1 by chance: only %d of type %d may be", may, kind)
		}
	}
}

// FuzzData: whatever comes, Data and Names are as they are told.
func FuzzData(f *testing.F) {
	f.Add(api.SOA, wire("a")+wire("b")+strings.Repeat("\x00", 20))
	f.Add(api.MX, "\x00\x0a"+wire("mx a"))
	f.Add(api.TXT, "\x02ab\x00")
	f.Fuzz(func(t *testing.T, kind int, d string) { asTold(t, kind, d) })
}

// TestLayout holds that a type's data begins as Layout says: so many bytes, and so many names.
func TestLayout(t *testing.T) {
	r := rand.New(rand.NewSource(9))
	for _, kind := range types() {
		ahead, names := record.Layout(kind)
		for range 50 {
			d := some(r, kind)
			l := places(kind, d)
			if _, ok := told(kind, d); !ok {
				continue
			}
			is(t, fmt.Sprintf("Layout(%d): names of %q", kind, d), len(l), names)
			if names > 0 {
				is(t, fmt.Sprintf("Layout(%d): ahead of the names of %q", kind, d), l[0].at, ahead)
			}
			is(t, fmt.Sprintf("Layout(%d): no more than %q", kind, d), ahead <= len(d), true)
		}
	}
}
