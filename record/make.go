package record

import (
	"strings"

	"freshet/api"
	"freshet/name"
)

// mostOfFour is the greatest number of four bytes.
const mostOfFour = 1<<32 - 1

// Target is the name that one leads to.
func Target(r api.RR) (string, bool) {
	l, _ := layoutOf(r.Type)
	// SOA has two names, and leads to neither.
	if l.names != 1 || !Data(r.Type, r.Data) {
		return "", false
	}
	return strings.Clone(r.Data[l.ahead:]), true
}

// Addr is an address.
func Addr(r api.RR) (int, bool) { return lastFour(api.A, r) }

// Minimum is a zone's least time.
func Minimum(r api.RR) (int, bool) { return lastFour(api.SOA, r) }

// lastFour is the number in the last four bytes of a record of type t.
func lastFour(t int, r api.RR) (int, bool) {
	if r.Type != t || !Data(t, r.Data) {
		return 0, false
	}
	v := 0
	for _, c := range []byte(r.Data[len(r.Data)-4:]) {
		v = v<<8 | int(c)
	}
	return v, true
}

// MakeA makes an address's.
func MakeA(owner string, ttl, addr int) api.RR {
	if !isFour(addr) {
		return api.RR{}
	}
	return checked(owner, api.A, ttl, string(appendFour(nil, addr)))
}

// MakeName makes a name's.
func MakeName(owner string, t, ttl int, to string) api.RR {
	switch t {
	case api.NS, api.CNAME, api.PTR:
		return checked(owner, t, ttl, strings.Clone(to))
	}
	return api.RR{}
}

// MakeSOA makes a zone's.
func MakeSOA(owner string, ttl, serial, minimum int) api.RR {
	if !isFour(serial) || !isFour(minimum) {
		return api.RR{}
	}
	data := []byte(owner + name.Root)
	for _, v := range [...]int{serial, 1, 2, 3, minimum} {
		data = appendFour(data, v)
	}
	return checked(owner, api.SOA, ttl, string(data))
}

// checked is a record of class IN, if it may be.
func checked(owner string, t, ttl int, data string) api.RR {
	r := api.RR{Name: strings.Clone(owner), Type: t, Class: api.IN, TTL: ttl, Data: data}
	if !Check(r) {
		return api.RR{}
	}
	return r
}

// isFour tells whether four bytes hold a number.
func isFour(v int) bool { return 0 <= v && v <= mostOfFour }

// appendFour writes four bytes, the highest first.
func appendFour(b []byte, v int) []byte {
	return append(b, byte(v>>24), byte(v>>16), byte(v>>8), byte(v))
}
