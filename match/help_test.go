package match_test

import (
	"fmt"
	"math/rand"
	"strings"
	"testing"
	"unsafe"

	"freshet/api"
)

// is compares what was told.
func is(t *testing.T, what string, got, want any) {
	t.Helper()
	if fmt.Sprintf("%T%#v", got, got) != fmt.Sprintf("%T%#v", want, want) {
		t.Errorf("%s:\n got %#v\nwant %#v", what, got, want)
	}
}

// wire is the name of labels, each a part of s between blanks; without any check, and without the program's help.
func wire(s string) string {
	n := ""
	for _, l := range strings.Fields(s) {
		n += string([]byte{byte(len(l))}) + l
	}
	return n + "\x00"
}

// longest is a name of 255 bytes.
func longest() string {
	return wire(strings.Repeat("a", 63) + " " + strings.Repeat("B", 63) + " " + strings.Repeat("c", 63) + " " + strings.Repeat("D", 61))
}

// wrong is what is not a name.
func wrong() []string {
	return []string{
		"", "x", "a\x00", "\x01", "\x01a", "\x01A", "\x02a\x00", "\x01a\x00\x00", "\x00\x00", "\xc0\x00", "\xc0\x0c", "\x01a\xc0\x00", "www.a.", "ABC",
		"\x40" + strings.Repeat("a", 64) + "\x00", strings.Repeat("\x01a", 128) + "\x00", "\x01e" + longest(), strings.Repeat("A", 1<<16),
	}
}

// full is a message that has some of all there is.
func full() api.Message {
	return api.Message{
		ID: 0x1234, Response: true, Opcode: 2, Authority: true, Cut: true, Desired: true, Code: 3,
		Questions:  []api.Question{{Name: wire("www A"), Type: 255, Class: 1}, {Name: "\x00", Type: 0, Class: 65535}},
		Answers:    []api.RR{{Name: wire("www A"), Type: api.CNAME, Class: 1, TTL: 60, Data: wire("w A")}, address("w A", 1, 2)},
		Servers:    []api.RR{{Name: wire("A"), Type: api.NS, Class: 1, TTL: 7, Data: wire("ns A")}},
		Additional: []api.RR{address("ns A", 1, 3)},
		EDNS:       true, Size: 4096,
	}
}

// address is a record of type A.
func address(owner string, class, ttl int) api.RR {
	return api.RR{Name: wire(owner), Type: api.A, Class: class, TTL: ttl, Data: string([]byte{1, 2, 3, 4})}
}

// text is all of a message, nil and empty lists alike.
func text(m api.Message) string {
	if len(m.Questions) == 0 {
		m.Questions = nil
	}
	for _, l := range []*[]api.RR{&m.Answers, &m.Servers, &m.Additional} {
		if len(*l) == 0 {
			*l = nil
		}
	}
	return fmt.Sprintf("%#v", m)
}

// tells holds a message.
func tells(t *testing.T, what string, got, want api.Message) {
	t.Helper()
	if text(got) != text(want) {
		t.Errorf("%s:\n got %s\nwant %s", what, text(got), text(want))
	}
}

// shares tells whether two texts stand in one piece of memory.
func shares(a, b string) bool {
	return a != "" && b != "" && unsafe.StringData(a) == unsafe.StringData(b)
}

// sharesRecords tells whether two lists have a name or data in one piece of memory.
func sharesRecords(a, b []api.RR) bool {
	for _, x := range a {
		for _, y := range b {
			if shares(x.Name, y.Name) || shares(x.Data, y.Data) {
				return true
			}
		}
	}
	return false
}

// roomy is a list with room behind it, that room filled: what is handed in has its spare room left as it is.
func roomy[T any](l []T, filler T) (list, all []T) {
	all = make([]T, len(l)+4)
	copy(all, l)
	for i := len(l); i < len(all); i++ {
		all[i] = filler
	}
	return all[:len(l)], all
}

// small is a text in small letters; of a name this is what is compared.
func small(s string) string {
	b := []byte(s)
	for i, c := range b {
		if 'A' <= c && c <= 'Z' {
			b[i] = c + 32
		}
	}
	return string(b)
}

// form is a type's data: B is a byte, N a name, all else stands behind; told without the program's help.
func form(kind int) string {
	switch kind {
	case 2, 5, 12:
		return "N"
	case 6:
		return "NN"
	case 15:
		return "BBN"
	case 33:
		return "BBBBBBN"
	}
	return ""
}

// smallData is data that may be, with its names in small letters.
func smallData(kind int, d string) string {
	end, at := 0, 0
	for _, piece := range form(kind) {
		if piece == 'B' {
			end, at = end+1, at+1
			continue
		}
		for d[end] != 0 {
			end += 1 + int(d[end])
		}
		end++
	}
	return d[:at] + small(d[at:end]) + d[end:]
}

// alike is 3's Same, told once more, of names and data that may be.
func alike(a, b api.RR) bool {
	return small(a.Name) == small(b.Name) && a.Type == b.Type && a.Class == b.Class && smallData(a.Type, a.Data) == smallData(b.Type, b.Data)
}

// someName is a name made by chance: of few letters, so that many are alike but for their letters' size.
func someName(r *rand.Rand) string {
	n := "\x00"
	for range r.Intn(3) {
		l := string("aAbB"[r.Intn(4)])
		n = string([]byte{byte(len(l))}) + l + n
	}
	return n
}

// someRecord is a record made by chance: of few names, types, and data.
func someRecord(r *rand.Rand) api.RR {
	kinds := []int{1, 2, 5, 6, 12, 15, 16, 33, 41, 99, 0, 255}
	x := api.RR{Name: someName(r), Type: kinds[r.Intn(len(kinds))], Class: r.Intn(8), TTL: r.Intn(1 << 31)}
	if x.Class > 3 {
		x.Class = 1
	}
	switch x.Type {
	case 1:
		x.Data = strings.Repeat(string("aA"[r.Intn(2)]), 4)
	case 16:
		x.Data = "\x01" + string("aA"[r.Intn(2)])
	case 2, 5, 6, 12, 15, 33:
		for _, piece := range form(x.Type) {
			if piece == 'B' {
				x.Data += string("aA"[r.Intn(2)])
			} else {
				x.Data += someName(r)
			}
		}
		if x.Type == 6 {
			x.Data += strings.Repeat(string("aA"[r.Intn(2)]), 20)
		}
	default:
		x.Data = "\x01" + string("aA"[r.Intn(2)]) + "\x00"
	}
	return x
}
