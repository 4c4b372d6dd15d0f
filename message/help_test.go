package message_test

import (
	"fmt"
	"math/rand"
	"slices"
	"strings"
	"testing"

	"freshet/api"
	"freshet/message"
)

// is compares what was told.
func is(t *testing.T, what string, got, want any) {
	t.Helper()
	if fmt.Sprintf("%T%#v", got, got) != fmt.Sprintf("%T%#v", want, want) {
		t.Errorf("%s:\n got %#v\nwant %#v", what, got, want)
	}
}

// wire is the name of labels, each a part of s between blanks; without any check, and without the program's help.
func wire(s string) string {
	n := ""
	for _, l := range strings.Fields(s) {
		n += string([]byte{byte(len(l))}) + l
	}
	return n + "\x00"
}

// longest is a name of 255 bytes.
func longest() string {
	return wire(strings.Repeat("a", 63) + " " + strings.Repeat("B", 63) + " " + strings.Repeat("c", 63) + " " + strings.Repeat("D", 61))
}

// wrong is what is not a name.
func wrong() []string {
	return []string{
		"", "x", "a\x00", "\x01", "\x01a", "\x02a\x00", "\x01a\x00\x00", "\x00\x00", "\xc0\x00", "\xc0\x0c", "\x01a\xc0\x00", "www.a.",
		"\x40" + strings.Repeat("a", 64) + "\x00", strings.Repeat("\x01a", 128) + "\x00", "\x01e" + longest(),
	}
}

// two and four are numbers in so many bytes.
func two(v int) string  { return string([]byte{byte(v >> 8), byte(v)}) }
func four(v int) string { return two(v>>16) + two(v) }

// headOf is twelve bytes: so many of each.
func headOf(questions, answers, servers, more int) string {
	return "\x12\x34\x00\x00" + two(questions) + two(answers) + two(servers) + two(more)
}

// rr is a record's bytes, as they stand.
func rr(owner string, kind, class, ttl int, data string) string {
	return owner + two(kind) + two(class) + four(ttl) + two(len(data)) + data
}

// full is a message that has some of all there is.
func full() api.Message {
	return api.Message{
		ID: 0x1234, Response: true, Opcode: 2, Authority: true, Desired: true, Code: 3,
		Questions: []api.Question{{Name: wire("www A"), Type: 255, Class: 1}, {Name: "\x00", Type: 0, Class: 65535}},
		Answers: []api.RR{
			{Name: wire("www A"), Type: api.CNAME, Class: 1, TTL: 60, Data: wire("w A")},
			{Name: wire("w A"), Type: api.A, Class: 1, TTL: 0, Data: "\x01\x02\x03\x04"},
		},
		Servers: []api.RR{
			{Name: wire("A"), Type: api.NS, Class: 1, TTL: 1<<31 - 1, Data: wire("ns A")},
			{Name: wire("A"), Type: api.SOA, Class: 1, TTL: 7, Data: wire("ns A") + wire("me a") + "abcdefghijklmnopqrst"},
			{Name: wire("A"), Type: api.MX, Class: 1, TTL: 8, Data: "\xc0\x0c" + wire("mx A")},
		},
		Additional: []api.RR{
			{Name: wire("mx A"), Type: api.AAAA, Class: 3, TTL: 9, Data: "ABCDEFGHIJKLMNOP"},
			{Name: wire("s A"), Type: api.SRV, Class: 1, TTL: 10, Data: "\x00\x01\x00\x02\x00\x03" + wire("mx A")},
			{Name: wire("p A"), Type: api.PTR, Class: 1, TTL: 11, Data: wire("www A")},
			{Name: wire("p A"), Type: api.TXT, Class: 1, TTL: 12, Data: "\x03\x01A\x00\x00"},
			{Name: wire("p A"), Type: 99, Class: 0, TTL: 13, Data: wire("www A")},
			{Name: "\x00", Type: 65535, Class: 65535, TTL: 14, Data: ""},
		},
		EDNS: true, Size: 1232,
	}
}

// few is one with a record of each section, and a question.
func few() api.Message {
	a := func(s string) []api.RR {
		return []api.RR{{Name: wire(s), Type: api.A, Class: 1, TTL: 5, Data: "abcd"}}
	}
	return api.Message{Questions: []api.Question{{Name: wire("q"), Type: 1, Class: 1}}, Answers: a("a"), Servers: a("s"), Additional: a("x")}
}

// form is a type's data: B is a byte, N a name, all else stands behind; told without the program's help.
func form(kind int) string {
	switch kind {
	case 2, 5, 12:
		return "N"
	case 6:
		return "NN" + strings.Repeat("B", 20)
	case 15:
		return "BBN"
	case 33:
		return "BBBBBBN"
	}
	return ""
}

// cutName cuts a name off the head of data that has one.
func cutName(d string) (n, rest string) {
	at := 0
	for d[at] != 0 {
		at += 1 + int(d[at])
	}
	return d[:at+1], d[at+1:]
}

// A pen writes a message as Encode should, in a row: what it wrote squeezed, it looks for from the first one on.
type pen struct {
	out   string
	names []struct {
		n  string
		at int
	}
}

func (p *pen) name(n string, squeeze bool) {
	if !squeeze {
		p.out += n
		return
	}
	for ; n != "\x00"; n = n[1+int(n[0]):] {
		for _, x := range p.names {
			if x.n == n {
				p.out += two(0xc000 + x.at)
				return
			}
		}
		p.names = append(p.names, struct {
			n  string
			at int
		}{n, len(p.out)})
		p.out += n[:1+int(n[0])]
	}
	p.out += "\x00"
}

func (p *pen) record(r api.RR) {
	p.name(r.Name, true)
	p.out += two(r.Type) + two(r.Class) + four(r.TTL)
	at, rest := len(p.out), r.Data
	p.out += "??"
	for _, piece := range form(r.Type) {
		if piece == 'B' {
			p.out, rest = p.out+rest[:1], rest[1:]
			continue
		}
		n, behind := cutName(rest)
		p.name(n, r.Type != 33)
		rest = behind
	}
	p.out += rest
	p.out = p.out[:at] + two(len(p.out)-at-2) + p.out[at+2:]
}

// spelt is the bytes that Encode should have of a message that may be; however many.
func spelt(m api.Message) string {
	digit := func(on bool) int {
		if on {
			return 1
		}
		return 0
	}
	d := digit(m.Response)
	d = d*16 + m.Opcode
	d = d*2 + digit(m.Authority)
	d = d*2 + digit(m.Cut)
	d = d*2 + digit(m.Desired)
	d = d*2 + digit(m.Available)
	d = d*8*16 + m.Code
	p := &pen{out: two(m.ID) + two(d) + two(len(m.Questions)) + two(len(m.Answers)) + two(len(m.Servers)) + two(len(m.Additional)+digit(m.EDNS))}
	for _, q := range m.Questions {
		p.name(q.Name, true)
		p.out += two(q.Type) + two(q.Class)
	}
	for _, r := range slices.Concat(m.Answers, m.Servers, m.Additional) {
		p.record(r)
	}
	if m.EDNS {
		p.out += "\x00\x00\x29" + two(m.Size) + "\x00\x00\x00\x00\x00\x00"
	}
	return p.out
}

// A cursor reads a message as Decode should: what is wrong it tells by a panic.
type cursor struct {
	b  string
	at int
}

func (c *cursor) take(n int) string {
	s := c.b[c.at : c.at+n]
	c.at += n
	return s
}

func (c *cursor) two() int {
	s := c.take(2)
	return int(s[0])*256 + int(s[1])
}

// name reads the name at at, part by part.
func (c *cursor) name() string {
	part := c.at
	for n := ""; ; {
		size := int(c.take(1)[0])
		switch {
		case size == 0:
			if len(n) >= api.MaxName {
				panic("too long")
			}
			return n + "\x00"
		case size < 64:
			n += string([]byte{byte(size)}) + c.take(size)
		case size < 192:
			panic("first byte")
		default:
			to := (size-192)*256 + int(c.take(1)[0])
			if to >= part {
				panic("pointer")
			}
			n += (&cursor{c.b, to}).name()
			if len(n) > api.MaxName {
				panic("too long")
			}
			return n
		}
	}
}

// record reads a record, and an OPT too.
func (c *cursor) record() api.RR {
	r := api.RR{Name: c.name()}
	r.Type, r.Class = c.two(), c.two()
	if high, low := c.two(), c.two(); high < 32768 {
		r.TTL = high*65536 + low
	}
	size := c.two()
	end := c.at + size
	for _, piece := range form(r.Type) {
		if piece == 'B' {
			r.Data += c.take(1)
		} else {
			r.Data += c.name()
		}
	}
	r.Data += c.take(end - c.at)
	sized := map[int]int{1: 4, 28: 16}
	want, fixed := sized[r.Type]
	switch {
	case r.Type == 41:
		return r
	case r.Type == 0 || size > api.MaxData || fixed && size != want:
		panic("type, or size")
	case r.Type == 6: // two names and twenty bytes
		_, rest := cutName(r.Data)
		if _, rest = cutName(rest); len(rest) != 20 {
			panic("SOA")
		}
	case form(r.Type) != "":
		if n := strings.TrimLeft(form(r.Type), "B"); n != "N" || len(r.Data) != len(form(r.Type))-1+nameSize(r.Data[len(form(r.Type))-1:]) {
			panic("behind the name")
		}
	case r.Type == 16:
		texts := cursor{b: r.Data}
		for first := true; first || texts.at < len(texts.b); first = false {
			texts.take(int(texts.take(1)[0]))
		}
	}
	return r
}

func nameSize(d string) int {
	n, _ := cutName(d)
	return len(n)
}

// first is what the first twelve bytes say.
func first(b []byte) api.Message {
	digit := func(byte, place int) bool { return b[byte]>>place%2 == 1 }
	return api.Message{
		ID: int(b[0])*256 + int(b[1]), Response: digit(2, 7), Opcode: int(b[2]) / 8 % 16, Authority: digit(2, 2), Cut: digit(2, 1),
		Desired: digit(2, 0), Available: digit(3, 7), Code: int(b[3]) % 16,
	}
}

// parsed is what Decode should tell of a message with a head.
func parsed(b []byte) (m api.Message, ok bool) {
	defer func() {
		if recover() != nil {
			m, ok = first(b), false
		}
	}()
	if len(b) > 4096 || b[3]&0x70 != 0 {
		panic("head")
	}
	m = first(b)
	c := &cursor{b: string(b), at: 4}
	counts := []int{c.two(), c.two(), c.two(), c.two()}
	if counts[0] > 4 {
		panic("questions")
	}
	for range counts[0] {
		q := api.Question{Name: c.name()}
		q.Type, q.Class = c.two(), c.two()
		m.Questions = append(m.Questions, q)
	}
	var lists [3][]api.RR
	for section, count := range counts[1:] {
		for range count {
			r := c.record()
			if r.Type != 41 {
				lists[section] = append(lists[section], r)
			} else if section != 2 || r.Name != "\x00" || m.EDNS {
				panic("OPT")
			} else {
				m.EDNS, m.Size = true, r.Class
			}
		}
		if len(lists[section]) > 64 {
			panic("records")
		}
	}
	if c.at != len(b) {
		panic("left")
	}
	m.Answers, m.Servers, m.Additional = lists[0], lists[1], lists[2]
	return m, true
}

// text is all of a message, nil and empty lists alike.
func text(m api.Message) string {
	if len(m.Questions) == 0 {
		m.Questions = nil
	}
	for _, l := range []*[]api.RR{&m.Answers, &m.Servers, &m.Additional} {
		if len(*l) == 0 {
			*l = nil
		}
	}
	return fmt.Sprintf("%#v", m)
}

// asParsed holds what Decode answers to what is parsed; it tells whether that was read.
func asParsed(t *testing.T, what string, b []byte) bool {
	t.Helper()
	var want api.Message
	ok := false
	if len(b) >= 12 {
		want, ok = parsed(b)
	}
	m, head, e := message.Decode(b)
	if text(m) != text(want) || head != (len(b) >= 12) || (e == api.OK) != ok || e != api.OK && e != api.ErrBad {
		t.Errorf("%s: Decode(%.300q):\n got %#v %v %d\nwant %#v %v", what, b, m, head, e, want, ok)
	}
	return ok
}

// reads and refuses hold what Decode answers, and whether it is so.
func reads(t *testing.T, what, b string) {
	t.Helper()
	if !asParsed(t, what, []byte(b)) {
		t.Errorf("%s: %.300q is not read", what, b)
	}
}

func refuses(t *testing.T, what, b string) {
	t.Helper()
	if asParsed(t, what, []byte(b)) {
		t.Errorf("%s: %.300q is read", what, b)
	}
}

// encodes holds what Encode answers of a message that may be, and that Decode reads it as it was.
func encodes(t *testing.T, what string, m api.Message) {
	t.Helper()
	want := spelt(m)
	b, e := message.Encode(m)
	if len(want) > 4096 {
		is(t, "P4.2 "+what, len(b), 0)
		is(t, "P4.2 "+what, e, api.ErrBig)
		return
	}
	is(t, "P4.2 "+what, string(b), want)
	is(t, "P4.2 "+what, e, api.OK)
	x, head, e := message.Decode(b)
	is(t, "P4.5 "+what, text(x), text(m))
	is(t, "P4.5 "+what, head, true)
	is(t, "P4.5 "+what, e, api.OK)
	is(t, "P4.4 Same of "+what, message.Same(x, m), true)
}

// someName is a name made by chance: of few letters, so that many end alike.
func someName(r *rand.Rand) string {
	n := "\x00"
	for range r.Intn(4) {
		l := strings.Repeat(string("aAb\x00"[r.Intn(4)]), 1+r.Intn(2))
		n = string([]byte{byte(len(l))}) + l + n
	}
	return n
}

// someRecord is a record made by chance, of any type.
func someRecord(r *rand.Rand) api.RR {
	kinds := []int{1, 2, 5, 6, 12, 15, 16, 28, 33, 99, 1 + r.Intn(65535)}
	x := api.RR{Name: someName(r), Type: kinds[r.Intn(len(kinds))], Class: r.Intn(3), TTL: r.Intn(2) * r.Intn(1<<31)}
	if x.Type == 41 {
		x.Type = 42
	}
	bytes := func(n int) string {
		b := make([]byte, n)
		r.Read(b)
		return string(b)
	}
	switch x.Type {
	case 1:
		x.Data = bytes(4)
	case 28:
		x.Data = bytes(16)
	case 16:
		for range 1 + r.Intn(3) {
			n := r.Intn(4)
			x.Data += string([]byte{byte(n)}) + bytes(n)
		}
	case 2, 5, 6, 12, 15, 33:
		for _, piece := range form(x.Type) {
			if piece == 'B' {
				x.Data += bytes(1)
			} else {
				x.Data += someName(r)
			}
		}
	default:
		x.Data = bytes(r.Intn(6))
	}
	return x
}

// some is a message made by chance.
func some(r *rand.Rand) api.Message {
	flip := func() bool { return r.Intn(2) == 0 }
	m := api.Message{
		ID: r.Intn(65536), Response: flip(), Opcode: r.Intn(16), Authority: flip(), Cut: flip(), Desired: flip(), Available: flip(), Code: r.Intn(16),
	}
	if flip() {
		m.EDNS, m.Size = true, r.Intn(65536)
	}
	for range r.Intn(5) {
		m.Questions = append(m.Questions, api.Question{Name: someName(r), Type: r.Intn(65536), Class: r.Intn(3)})
	}
	for _, l := range []*[]api.RR{&m.Answers, &m.Servers, &m.Additional} {
		for range r.Intn(4) {
			*l = append(*l, someRecord(r))
		}
	}
	return m
}
