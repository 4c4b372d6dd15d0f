package record_test

import (
	"fmt"
	"math"
	"math/rand"
	"slices"
	"strings"
	"testing"

	"freshet/api"
	"freshet/record"
)

func TestCheck(t *testing.T) {
	good := api.RR{Name: wire("www A"), Type: api.A, Class: api.IN, TTL: 60, Data: "abcd"}
	is(t, "P3.1 Check", record.Check(good), true)
	is(t, "P3.1 Check of zero", record.Check(api.RR{}), false)
	for _, n := range right() {
		r := good
		r.Name = n
		is(t, fmt.Sprintf("P3.1 Check of the name %.40q", n), record.Check(r), true)
	}
	for _, n := range wrong() {
		r := good
		r.Name = n
		is(t, fmt.Sprintf("P3.1 Check of the name %.40q", n), record.Check(r), false)
	}
	for kind := -5; kind <= 66000; kind++ {
		r := good
		r.Type = kind
		want := 1 <= kind && kind <= 65535 && kind != 41 && (kind == 1 || !record.Known(kind))
		if record.Check(r) != want {
			t.Errorf("P3.1 Check of the type %d: %v", kind, !want)
		}
	}
	for _, c := range []struct {
		class int
		want  bool
	}{{0, true}, {1, true}, {3, true}, {255, true}, {65535, true}, {65536, false}, {65537, false}, {-1, false}, {1 << 32, false}, {1<<32 + 1, false}, {math.MaxInt, false}, {math.MinInt, false}} {
		r := good
		r.Class = c.class
		is(t, fmt.Sprintf("P3.1 Check of the class %d", c.class), record.Check(r), c.want)
	}
	for _, c := range []struct {
		ttl  int
		want bool
	}{{0, true}, {1, true}, {1<<31 - 1, true}, {1 << 31, false}, {1<<31 + 1, false}, {1<<32 - 1, false}, {1 << 32, false}, {-1, false}, {math.MaxInt, false}, {math.MinInt, false}} {
		r := good
		r.TTL = c.ttl
		is(t, fmt.Sprintf("P3.1 Check of the TTL %d", c.ttl), record.Check(r), c.want)
	}
	for _, kind := range []int{math.MaxInt, math.MinInt, 1<<32 + 1, 1<<16 + 1} {
		r := good
		r.Type = kind
		is(t, fmt.Sprintf("P3.1 Check of the type %d", kind), record.Check(r), false)
	}
}

func TestCheckData(t *testing.T) {
	r := rand.New(rand.NewSource(2))
	for _, kind := range types() {
		for range 200 {
			d := some(r, kind)
			if r.Intn(2) == 0 {
				d = spoilt(r, d)
			}
			_, ok := told(kind, d)
			want := ok && 1 <= kind && kind <= 65535 && kind != 41
			is(t, fmt.Sprintf("P3.1 Check of type %d and %q", kind, d), record.Check(api.RR{Name: "\x00", Type: kind, Data: d}), want)
		}
	}
	is(t, "P3.1 Check of 1000 bytes", record.Check(api.RR{Name: "\x00", Type: 99, Data: strings.Repeat("x", 1000)}), true)
	is(t, "P3.1 Check of 1001 bytes", record.Check(api.RR{Name: "\x00", Type: 99, Data: strings.Repeat("x", 1001)}), false)
}

// same holds Same, both ways round.
func same(t *testing.T, what string, a, b api.RR, want bool) {
	t.Helper()
	is(t, "P3.3 Same: "+what, record.Same(a, b), want)
	is(t, "P3.3 Same, the other way round: "+what, record.Same(b, a), want)
}

func TestSame(t *testing.T) {
	r := api.RR{Name: wire("www A"), Type: api.MX, Class: api.IN, TTL: 60, Data: "AB" + wire("Mx a")}
	other := func(turn func(x *api.RR)) api.RR {
		x := r
		turn(&x)
		return x
	}
	same(t, "itself", r, r, true)
	same(t, "its name in other letters", r, other(func(x *api.RR) { x.Name = wire("WWW a") }), true)
	same(t, "another name", r, other(func(x *api.RR) { x.Name = wire("www b") }), false)
	same(t, "the name's end", r, other(func(x *api.RR) { x.Name = wire("a") }), false)
	same(t, "another TTL", r, other(func(x *api.RR) { x.TTL = 61 }), true)
	same(t, "a TTL that may not be", r, other(func(x *api.RR) { x.TTL = -1 }), true)
	same(t, "another class", r, other(func(x *api.RR) { x.Class = 3 }), false)
	same(t, "another type", r, other(func(x *api.RR) { x.Type = 99 }), false)
	same(t, "its data's name in other letters", r, other(func(x *api.RR) { x.Data = "AB" + wire("mX A") }), true)
	same(t, "another name in its data", r, other(func(x *api.RR) { x.Data = "AB" + wire("my a") }), false)
	same(t, "other letters ahead of its data's name", r, other(func(x *api.RR) { x.Data = "ab" + wire("Mx a") }), false)
	same(t, "more data", r, other(func(x *api.RR) { x.Data += "\x00" }), false)
	same(t, "no data", r, other(func(x *api.RR) { x.Data = "" }), false)
	same(t, "zero", api.RR{}, api.RR{}, true)
	same(t, "zero and another", api.RR{}, r, false)
	// The type is asked, even where data is alike.
	ns := record.MakeName(wire("a"), api.NS, 1, wire("b"))
	same(t, "NS and CNAME", ns, record.MakeName(wire("a"), api.CNAME, 1, wire("b")), false)
	// Where one record ends and the next begins is no matter of bytes alone.
	same(t, "bytes of the name in the data", api.RR{Name: "\x01a\x00", Type: 99, Data: "b"}, api.RR{Name: "\x01a", Type: 99, Data: "\x00b"}, false)
}

func TestSameData(t *testing.T) {
	upper, lower := wire("AB C"), wire("ab c")
	numbers := strings.Repeat("A", 20)
	of := func(kind int, d string) api.RR { return api.RR{Name: "\x00", Type: kind, Class: api.IN, Data: d} }
	for _, kind := range []int{api.NS, api.CNAME, api.PTR} {
		same(t, record.Type(kind), of(kind, upper), of(kind, lower), true)
	}
	same(t, "SRV", of(api.SRV, "AAAAAA"+upper), of(api.SRV, "AAAAAA"+lower), true)
	same(t, "SRV, ahead of its name", of(api.SRV, "AAAAAA"+upper), of(api.SRV, "AAAAAa"+upper), false)
	same(t, "SOA, both", of(api.SOA, upper+upper+numbers), of(api.SOA, lower+lower+numbers), true)
	same(t, "SOA, the first", of(api.SOA, upper+upper+numbers), of(api.SOA, lower+upper+numbers), true)
	same(t, "SOA, the second", of(api.SOA, upper+upper+numbers), of(api.SOA, upper+lower+numbers), true)
	same(t, "SOA, behind them", of(api.SOA, upper+upper+numbers), of(api.SOA, upper+upper+strings.Repeat("a", 20)), false)
	same(t, "SOA, names cut elsewhere", of(api.SOA, "\x01a\x00\x00"+numbers), of(api.SOA, "\x00\x01a\x00"+numbers), false)
	same(t, "SOA, the longest names", of(api.SOA, longest()+longest()+numbers), of(api.SOA, strings.ToLower(longest()+longest())+numbers), true)
	// Of data without names each byte is asked.
	same(t, "A", of(api.A, "\x02AB\x00"), of(api.A, "\x02ab\x00"), false)
	same(t, "AAAA", of(api.AAAA, strings.Repeat("A", 16)), of(api.AAAA, strings.Repeat("a", 16)), false)
	same(t, "TXT", of(api.TXT, "\x02AB\x00"), of(api.TXT, "\x02ab\x00"), false)
	same(t, "a type that is not known", of(99, upper), of(99, lower), false)
	same(t, "OPT", of(api.OPT, upper), of(api.OPT, lower), false)
	// Data that may not be has no names; what is not Valid is itself, folded.
	same(t, "NS, a byte more", of(api.NS, upper+"x"), of(api.NS, lower+"x"), false)
	same(t, "NS, a byte more, itself", of(api.NS, upper+"x"), of(api.NS, upper+"x"), true)
	same(t, "SOA, a byte less", of(api.SOA, upper+upper+numbers[1:]), of(api.SOA, lower+lower+numbers[1:]), false)
	for _, n := range wrong() {
		same(t, "a name that is not Valid, itself", api.RR{Name: n}, api.RR{Name: n}, true)
		same(t, "a name that is not Valid, and Root", api.RR{Name: n}, api.RR{Name: "\x00"}, false)
	}
	same(t, "names that are not Valid", api.RR{Name: "ABC"}, api.RR{Name: "abc"}, false)
	same(t, "names that are not Valid", api.RR{Name: "\x01A"}, api.RR{Name: "\x01a"}, false)
}

// small makes the letters of what are names small; without the program's help.
func small(r api.RR) string {
	names, _ := told(r.Type, r.Data)
	d := r.Data
	for _, p := range names {
		d = d[:p.at] + strings.ToLower(d[p.at:p.at+p.n]) + d[p.at+p.n:]
	}
	return fmt.Sprintf("%q %d %d %q", strings.ToLower(r.Name), r.Type, r.Class, d)
}

// someRecord is a record made by chance.
func someRecord(r *rand.Rand) api.RR {
	kind := []int{api.A, api.NS, api.CNAME, api.SOA, api.PTR, api.MX, api.TXT, api.AAAA, api.SRV, 99}[r.Intn(10)]
	return api.RR{Name: someName(r), Type: kind, Class: 1 + r.Intn(2), TTL: r.Intn(3), Data: some(r, kind)}
}

func TestSameByChance(t *testing.T) {
	r := rand.New(rand.NewSource(3))
	var l []api.RR
	var smalls []string
	for range 600 {
		x := someRecord(r)
		l, smalls = append(l, x), append(smalls, small(x))
	}
	for i, a := range l {
		for k, b := range l {
			if want := smalls[i] == smalls[k]; record.Same(a, b) != want {
				t.Fatalf("P3.3 Same(%#v, %#v): %v", a, b, !want)
			}
		}
	}
}

func TestSameSet(t *testing.T) {
	txt := func(s string) api.RR { return api.RR{Name: wire("a"), Type: api.TXT, Class: api.IN, Data: s} }
	a, b, c := txt("\x01a"), txt("\x01b"), txt("\x01c")
	a2 := a
	a2.Name, a2.TTL = wire("A"), 9
	l := func(l ...api.RR) []api.RR { return l }
	for i, x := range []struct {
		a, b []api.RR
		want bool
	}{
		{nil, nil, true},
		{nil, l(), true},
		{l(a), nil, false},
		{l(a), l(a), true},
		{l(a), l(a2), true},
		{l(a), l(b), false},
		{l(a, b), l(b, a), true},
		{l(a, b), l(b, a2, a), true},
		{l(a, a, b), l(a, b, b), true},
		{l(a, a2), l(a), true},
		{l(a), l(a, b), false},
		{l(a, b), l(a, c), false},
		{l(a, b), l(a, b, c), false},
		{l(a, a, b), l(a, a, c), false},
		{l(a, b, c), l(c, b, a), true},
	} {
		is(t, fmt.Sprintf("P3.3 SameSet %d", i), record.SameSet(x.a, x.b), x.want)
		is(t, fmt.Sprintf("P3.3 SameSet %d, the other way round", i), record.SameSet(x.b, x.a), x.want)
	}
}

func TestSameSetByChance(t *testing.T) {
	r := rand.New(rand.NewSource(4))
	each := func(a, b []api.RR) bool {
		for _, x := range a {
			if !slices.ContainsFunc(b, func(y api.RR) bool { return small(x) == small(y) }) {
				return false
			}
		}
		return true
	}
	alike := 0
	for range 3000 {
		all := []api.RR{someRecord(r), someRecord(r), someRecord(r)}
		var a, b []api.RR
		for range r.Intn(5) {
			a = append(a, all[r.Intn(3)])
		}
		for range r.Intn(5) {
			b = append(b, all[r.Intn(3)])
		}
		want := each(a, b) && each(b, a)
		if want {
			alike++
		}
		is(t, fmt.Sprintf("P3.3 SameSet(%#v, %#v)", a, b), record.SameSet(a, b), want)
	}
	if alike < 200 {
		t.Errorf("P3.3 by chance: only %d are alike", alike)
	}
	var many []api.RR
	for i := range 20000 {
		many = append(many, record.MakeA(wire("a"), 1, i))
	}
	back := slices.Clone(many)
	slices.Reverse(back)
	is(t, "P3.3 SameSet of many", record.SameSet(many, back), true)
	is(t, "P3.3 SameSet of many, but one", record.SameSet(many, back[1:]), false)
}

func TestType(t *testing.T) {
	names := map[int]string{1: "A", 2: "NS", 5: "CNAME", 6: "SOA", 12: "PTR", 15: "MX", 16: "TXT", 28: "AAAA", 33: "SRV", 41: "OPT"}
	for kind := -300; kind <= 66000; kind++ {
		want := names[kind]
		if want == "" {
			want = fmt.Sprintf("TYPE%d", kind)
		}
		if got := record.Type(kind); got != want {
			t.Errorf("P3.3 Type(%d): %s", kind, got)
		}
	}
	is(t, "P3.3 Type of the greatest number", record.Type(math.MaxInt), "TYPE9223372036854775807")
	is(t, "P3.3 Type of the least number", record.Type(math.MinInt), "TYPE-9223372036854775808")
}

func TestHandedIn(t *testing.T) {
	r := record.MakeName(wire("A"), api.NS, 5, wire("NS a"))
	l := append(make([]api.RR, 0, 5), r, r)
	spare := l[:5]
	before := fmt.Sprintf("%#v", spare)
	record.SameSet(l, l)
	record.Same(l[0], l[1])
	record.Check(l[0])
	record.Target(l[0])
	is(t, "P3.4 what is handed in, its spare room", fmt.Sprintf("%#v", spare), before)
}

// TestFolded holds what is compared of a record: names in small letters, those in its data too, and no TTL.
func TestFolded(t *testing.T) {
	mx := api.RR{Name: wire("WWW a"), Type: api.MX, Class: 3, TTL: 5, Data: "AB" + wire("Mx A")}
	is(t, "Folded", record.Folded(mx), api.RR{Name: wire("www a"), Type: api.MX, Class: 3, Data: "AB" + wire("mx a")})
	other := api.RR{Name: "A", Type: 99, Class: 1, TTL: 5, Data: wire("A")}
	is(t, "Folded of what has no names", record.Folded(other), api.RR{Name: "A", Type: 99, Class: 1, Data: wire("A")})
}

// TestCopied holds that the same records are told, in memory of their own.
func TestCopied(t *testing.T) {
	l := []api.RR{record.MakeName(wire("A"), api.NS, 5, wire("NS a")), {Name: "x", Type: -1, Class: -1, TTL: -1}}
	got := record.Copied(l)
	is(t, "Copied", got, l)
	is(t, "Copied: memory", shares(got[0].Name, l[0].Name) || shares(got[0].Data, l[0].Data) || shares(got[1].Name, l[1].Name), false)
	got[0].TTL = 6
	is(t, "Copied, and changed", l[0].TTL, 5)
	is(t, "Copied of none", len(record.Copied(nil)), 0)
}
