package record_test

import (
	"fmt"
	"math"
	"math/rand"
	"strings"
	"testing"

	"freshet/api"
	"freshet/record"
)

// bytesOf is a number's four bytes, the highest first, by sums alone.
func bytesOf(v int) string {
	out := ""
	for range 4 {
		out = string([]byte{byte(v % 256)}) + out
		v /= 256
	}
	return out
}

// fours are numbers that four bytes hold.
func fours() []int {
	return []int{0, 1, 2, 3, 255, 256, 258, 65535, 65536, 16909060, 1<<24 - 1, 1 << 24, 1<<31 - 1, 1 << 31, 1<<31 + 1, 4278190081, 1<<32 - 2, 1<<32 - 1}
}

// notFours are numbers that they do not hold.
func notFours() []int {
	return []int{-1, -2, -256, -1 << 31, -1 << 32, 1 << 32, 1<<32 + 1, 1 << 40, math.MaxInt, math.MinInt}
}

// times are TTLs that may be.
func times() []int { return []int{0, 1, 60, 1<<31 - 2, 1<<31 - 1} }

// notTimes are TTLs that may not be.
func notTimes() []int {
	return []int{-1, 1 << 31, 1<<32 - 1, 1 << 32, 1<<32 + 60, math.MaxInt, math.MinInt}
}

// none holds that a record is zero.
func none(t *testing.T, what string, r api.RR) {
	t.Helper()
	is(t, what, r, api.RR{})
}

func TestMakeA(t *testing.T) {
	is(t, "P3.2 MakeA", record.MakeA(wire("a"), 60, 16909060), api.RR{Name: "\x01a\x00", Type: 1, Class: 1, TTL: 60, Data: "\x01\x02\x03\x04"})
	for _, addr := range fours() {
		want := api.RR{Name: wire("www A"), Type: 1, Class: 1, TTL: 5, Data: bytesOf(addr)}
		is(t, fmt.Sprintf("P3.2 MakeA of %d", addr), record.MakeA(wire("www A"), 5, addr), want)
	}
	for _, n := range right() {
		for _, ttl := range times() {
			is(t, "P3.2 MakeA", record.MakeA(n, ttl, 7), api.RR{Name: n, Type: 1, Class: 1, TTL: ttl, Data: "\x00\x00\x00\x07"})
		}
	}
	for _, addr := range notFours() {
		none(t, fmt.Sprintf("P3.2 MakeA of %d", addr), record.MakeA(wire("a"), 5, addr))
	}
	for _, n := range wrong() {
		none(t, fmt.Sprintf("P3.2 MakeA of %.40q", n), record.MakeA(n, 5, 1))
	}
	for _, ttl := range notTimes() {
		none(t, fmt.Sprintf("P3.2 MakeA of the TTL %d", ttl), record.MakeA(wire("a"), ttl, 1))
	}
}

func TestMakeName(t *testing.T) {
	for _, kind := range types() {
		r := record.MakeName(wire("A"), kind, 5, wire("Ns A"))
		if kind == 2 || kind == 5 || kind == 12 {
			is(t, fmt.Sprintf("P3.2 MakeName of type %d", kind), r, api.RR{Name: wire("A"), Type: kind, Class: 1, TTL: 5, Data: wire("Ns A")})
		} else {
			none(t, fmt.Sprintf("P3.2 MakeName of type %d", kind), r)
		}
	}
	// What would be data of another type makes none, either.
	none(t, "P3.2 MakeName of MX", record.MakeName("\x00", api.MX, 1, "\x00\x01\x00"))
	none(t, "P3.2 MakeName of SRV", record.MakeName("\x00", api.SRV, 1, "\x00\x01\x00\x01\x00\x01\x00"))
	none(t, "P3.2 MakeName of A", record.MakeName("\x00", api.A, 1, "\x02ab\x00"))
	none(t, "P3.2 MakeName of TXT", record.MakeName("\x00", api.TXT, 1, "\x01a\x00"))
	none(t, "P3.2 MakeName of another type", record.MakeName("\x00", 99, 1, "\x00"))
	for _, kind := range []int{api.NS, api.CNAME, api.PTR} {
		for _, n := range right() {
			for _, ttl := range times() {
				is(t, "P3.2 MakeName", record.MakeName(n, kind, ttl, "\x00"), api.RR{Name: n, Type: kind, Class: 1, TTL: ttl, Data: "\x00"})
				is(t, "P3.2 MakeName", record.MakeName("\x00", kind, ttl, n), api.RR{Name: "\x00", Type: kind, Class: 1, TTL: ttl, Data: n})
			}
		}
		for _, n := range wrong() {
			none(t, fmt.Sprintf("P3.2 MakeName of %.40q", n), record.MakeName(n, kind, 5, wire("a")))
			none(t, fmt.Sprintf("P3.2 MakeName to %.40q", n), record.MakeName(wire("a"), kind, 5, n))
		}
		for _, ttl := range notTimes() {
			none(t, fmt.Sprintf("P3.2 MakeName of the TTL %d", ttl), record.MakeName(wire("a"), kind, ttl, wire("a")))
		}
	}
}

func TestMakeSOA(t *testing.T) {
	want := "\x01A\x00\x00\x00\x00\x01\x02\x00\x00\x00\x01\x00\x00\x00\x02\x00\x00\x00\x03\x00\x01\x00\x00"
	is(t, "P3.2 MakeSOA", record.MakeSOA(wire("A"), 7, 258, 65536), api.RR{Name: "\x01A\x00", Type: 6, Class: 1, TTL: 7, Data: want})
	middle := "\x00\x00\x00\x01\x00\x00\x00\x02\x00\x00\x00\x03"
	for _, serial := range fours() {
		for _, minimum := range fours() {
			r := api.RR{Name: wire("b A"), Type: 6, Class: 1, TTL: 5, Data: wire("b A") + "\x00" + bytesOf(serial) + middle + bytesOf(minimum)}
			is(t, fmt.Sprintf("P3.2 MakeSOA of %d, %d", serial, minimum), record.MakeSOA(wire("b A"), 5, serial, minimum), r)
		}
	}
	for _, n := range right() {
		for _, ttl := range times() {
			r := api.RR{Name: n, Type: 6, Class: 1, TTL: ttl, Data: n + "\x00" + bytesOf(9) + middle + bytesOf(8)}
			is(t, "P3.2 MakeSOA", record.MakeSOA(n, ttl, 9, 8), r)
		}
	}
	for _, v := range notFours() {
		none(t, fmt.Sprintf("P3.2 MakeSOA of the serial %d", v), record.MakeSOA(wire("a"), 5, v, 1))
		none(t, fmt.Sprintf("P3.2 MakeSOA of the minimum %d", v), record.MakeSOA(wire("a"), 5, 1, v))
		none(t, fmt.Sprintf("P3.2 MakeSOA of both %d", v), record.MakeSOA(wire("a"), 5, v, v))
	}
	for _, n := range wrong() {
		none(t, fmt.Sprintf("P3.2 MakeSOA of %.40q", n), record.MakeSOA(n, 5, 1, 1))
	}
	for _, ttl := range notTimes() {
		none(t, fmt.Sprintf("P3.2 MakeSOA of the TTL %d", ttl), record.MakeSOA(wire("a"), ttl, 1, 1))
	}
}

// A reading is what Target, Addr and Minimum tell of a record.
type reading struct {
	to      string
	leads   bool
	addr    int
	is      bool
	minimum int
	may     bool
}

// read asks all three.
func read(kind int, d string) reading {
	var x reading
	r := api.RR{Type: kind, Data: d}
	x.to, x.leads = record.Target(r)
	x.addr, x.is = record.Addr(r)
	x.minimum, x.may = record.Minimum(r)
	return x
}

func TestRead(t *testing.T) {
	soa := wire("a") + wire("b") + strings.Repeat("\xff", 16)
	for _, c := range []struct {
		kind int
		d    string
		want reading
	}{
		{api.NS, wire("Ns a"), reading{to: wire("Ns a"), leads: true}},
		{api.CNAME, wire("B a"), reading{to: wire("B a"), leads: true}},
		{api.PTR, "\x00", reading{to: "\x00", leads: true}},
		{api.MX, "\x01b" + wire("mX a"), reading{to: wire("mX a"), leads: true}},
		{api.SRV, "\x01b\x00\x00\x00\x00" + wire("S"), reading{to: wire("S"), leads: true}},
		{api.SRV, "abcdef" + longest(), reading{to: longest(), leads: true}},
		{api.A, "\x01\x02\x03\x04", reading{addr: 16909060, is: true}},
		{api.A, "\x00\x00\x00\x00", reading{is: true}},
		{api.A, "\xff\x00\x00\x01", reading{addr: 4278190081, is: true}},
		{api.A, "\xff\xff\xff\xff", reading{addr: 1<<32 - 1, is: true}},
		{api.SOA, soa + "\x00\x01\x00\x02", reading{minimum: 65538, may: true}},
		{api.SOA, soa + "\x00\x00\x00\x00", reading{may: true}},
		{api.SOA, soa + "\xff\xff\xff\xff", reading{minimum: 1<<32 - 1, may: true}},
		{api.SOA, soa + "\x80\x00\x00\x00", reading{minimum: 1 << 31, may: true}},
		// Data, or a type, that is not so.
		{api.A, "\x01\x02\x03", reading{}},
		{api.A, "\x01\x02\x03\x04\x05", reading{}},
		{api.A, "", reading{}},
		{api.AAAA, strings.Repeat("\x01", 16), reading{}},
		{api.TXT, "\x03abc", reading{}},
		{99, wire("a"), reading{}},
		{99, "abcd", reading{}},
		{0, wire("a"), reading{}},
		{api.OPT, wire("a"), reading{}},
		{api.NS, "", reading{}},
		{api.NS, wire("a") + "x", reading{}},
		{api.CNAME, "\xc0\x0c", reading{}},
		{api.PTR, tooLong(), reading{}},
		{api.MX, "ab", reading{}},
		{api.MX, "a" + wire("b"), reading{}},
		{api.MX, "ab" + wire("a") + "x", reading{}},
		{api.SRV, "ab" + wire("a"), reading{}},
		{api.SOA, soa + "\x00\x00\x00", reading{}},
		{api.SOA, soa + "\x00\x00\x00\x00\x00", reading{}},
		{api.SOA, "abc", reading{}},
		{api.SOA, "", reading{}},
		{api.SOA, wire("a"), reading{}},
	} {
		is(t, fmt.Sprintf("P3.2 of type %d and %q", c.kind, c.d), read(c.kind, c.d), c.want)
	}
	for kind, ahead := range map[int]string{api.NS: "", api.CNAME: "", api.PTR: "", api.MX: "ab", api.SRV: "abcdef"} {
		for _, n := range right() {
			is(t, fmt.Sprintf("P3.2 of type %d and %.40q", kind, n), read(kind, ahead+n), reading{to: n, leads: true})
		}
		for _, n := range wrong() {
			is(t, fmt.Sprintf("P3.2 of type %d and %.40q", kind, n), read(kind, ahead+n), reading{})
		}
	}
}

func TestReadOnlyTypeAndData(t *testing.T) {
	// What else a record has is not asked.
	r := api.RR{Name: "x", Class: 99, TTL: -1}
	r.Type, r.Data = api.NS, wire("a")
	to, ok := record.Target(r)
	is(t, "P3.2 Target", []any{to, ok}, []any{wire("a"), true})
	r.Type, r.Data = api.A, "\x00\x00\x00\x07"
	addr, ok := record.Addr(r)
	is(t, "P3.2 Addr", []any{addr, ok}, []any{7, true})
	r.Type, r.Data = api.SOA, strings.Repeat("\x00", 21)+"\x07"
	minimum, ok := record.Minimum(r)
	is(t, "P3.2 Minimum", []any{minimum, ok}, []any{7, true})
}

func TestReadByChance(t *testing.T) {
	r := rand.New(rand.NewSource(5))
	number := func(d string) int {
		v := 0
		for _, c := range []byte(d[len(d)-4:]) {
			v = v*256 + int(c)
		}
		return v
	}
	for _, kind := range types() {
		for range 500 {
			d := some(r, kind)
			if r.Intn(2) == 0 {
				d = spoilt(r, d)
			}
			var want reading
			names, ok := told(kind, d)
			switch {
			case !ok:
			case kind == api.A:
				want.addr, want.is = number(d), true
			case kind == api.SOA:
				want.minimum, want.may = number(d), true
			case len(names) == 1:
				want.to, want.leads = d[names[0].at:], true
			}
			is(t, fmt.Sprintf("P3.2 of type %d and %q", kind, d), read(kind, d), want)
		}
	}
}

func TestMakeAndRead(t *testing.T) {
	for _, v := range fours() {
		addr, ok := record.Addr(record.MakeA(wire("a"), 1, v))
		is(t, fmt.Sprintf("P3.2 Addr of MakeA of %d", v), []any{addr, ok}, []any{v, true})
		minimum, ok := record.Minimum(record.MakeSOA(wire("a"), 1, 9, v))
		is(t, fmt.Sprintf("P3.2 Minimum of MakeSOA of %d", v), []any{minimum, ok}, []any{v, true})
	}
	for _, n := range right() {
		to, ok := record.Target(record.MakeName(wire("a"), api.CNAME, 1, n))
		is(t, fmt.Sprintf("P3.2 Target of MakeName of %.40q", n), []any{to, ok}, []any{n, true})
	}
}

func TestMakeMemory(t *testing.T) {
	owner, to := string([]byte(wire("www a"))), string([]byte(wire("ns a")))
	for i, r := range []api.RR{record.MakeA(owner, 1, 1), record.MakeName(owner, api.NS, 1, to), record.MakeSOA(owner, 1, 1, 1), record.MakeName(owner, api.PTR, 1, owner)} {
		if shares(r.Name, owner) || shares(r.Data, to) || shares(r.Data, owner) || shares(r.Name, r.Data) {
			t.Errorf("P3.4: answer %d is no new memory", i)
		}
		if n, ok := record.Target(r); ok && shares(n, r.Data) {
			t.Errorf("P3.4: Target of answer %d is no new memory", i)
		}
	}
	is(t, "P3.4 what was handed in", owner+to, wire("www a")+wire("ns a"))
}
