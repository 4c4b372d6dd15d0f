package message_test

import (
	"fmt"
	"math"
	"math/rand"
	"slices"
	"strings"
	"testing"

	"freshet/api"
	"freshet/message"
)

// spells holds what Encode answers to bytes that stand here.
func spells(t *testing.T, what string, m api.Message, want string) {
	t.Helper()
	b, e := message.Encode(m)
	is(t, "P4.2 "+what, string(b), want)
	is(t, "P4.2 "+what, e, api.OK)
	encodes(t, what, m)
}

func TestEncodeHead(t *testing.T) {
	zeros := strings.Repeat("\x00", 8)
	for what, c := range map[string]struct {
		m    api.Message
		want string
	}{
		"nothing":     {api.Message{}, "\x00\x00\x00\x00" + zeros},
		"ID":          {api.Message{ID: 0xfe01}, "\xfe\x01\x00\x00" + zeros},
		"Response":    {api.Message{Response: true}, "\x00\x00\x80\x00" + zeros},
		"Opcode 1":    {api.Message{Opcode: 1}, "\x00\x00\x08\x00" + zeros},
		"Opcode 15":   {api.Message{Opcode: 15}, "\x00\x00\x78\x00" + zeros},
		"Authority":   {api.Message{Authority: true}, "\x00\x00\x04\x00" + zeros},
		"Cut":         {api.Message{Cut: true}, "\x00\x00\x02\x00" + zeros},
		"Desired":     {api.Message{Desired: true}, "\x00\x00\x01\x00" + zeros},
		"Available":   {api.Message{Available: true}, "\x00\x00\x00\x80" + zeros},
		"Code 1":      {api.Message{Code: 1}, "\x00\x00\x00\x01" + zeros},
		"Code 15":     {api.Message{Code: 15}, "\x00\x00\x00\x0f" + zeros},
		"all":         {api.Message{ID: 65535, Response: true, Opcode: 15, Authority: true, Cut: true, Desired: true, Available: true, Code: 15}, "\xff\xff\xff\x8f" + zeros},
		"EDNS":        {api.Message{EDNS: true}, "\x00\x00\x00\x00\x00\x00\x00\x00\x00\x00\x00\x01" + "\x00\x00\x29\x00\x00\x00\x00\x00\x00\x00\x00"},
		"EDNS' Size":  {api.Message{EDNS: true, Size: 0xfedc}, "\x00\x00\x00\x00\x00\x00\x00\x00\x00\x00\x00\x01" + "\x00\x00\x29\xfe\xdc\x00\x00\x00\x00\x00\x00"},
		"a Question":  {api.Message{Questions: []api.Question{{Name: "\x00", Type: 0xfe01, Class: 0xdc02}}}, "\x00\x00\x00\x00\x00\x01\x00\x00\x00\x00\x00\x00" + "\x00\xfe\x01\xdc\x02"},
		"an Answer":   {api.Message{Answers: []api.RR{{Name: "\x00", Type: 0xfe01, Class: 0xdc02, TTL: 0x7b010203}}}, "\x00\x00\x00\x00\x00\x00\x00\x01\x00\x00\x00\x00" + "\x00\xfe\x01\xdc\x02\x7b\x01\x02\x03\x00\x00"},
		"a Server":    {api.Message{Servers: []api.RR{{Name: "\x00", Type: 1, Data: "abcd"}}}, "\x00\x00\x00\x00\x00\x00\x00\x00\x00\x01\x00\x00" + "\x00\x00\x01\x00\x00\x00\x00\x00\x00\x00\x04abcd"},
		"one more":    {api.Message{Additional: []api.RR{{Name: "\x00", Type: 99, Data: "x"}}}, "\x00\x00\x00\x00\x00\x00\x00\x00\x00\x00\x00\x01" + "\x00\x00\x63\x00\x00\x00\x00\x00\x00\x00\x01x"},
		"EDNS behind": {api.Message{EDNS: true, Size: 3, Additional: []api.RR{{Name: "\x00", Type: 99}}}, "\x00\x00\x00\x00\x00\x00\x00\x00\x00\x00\x00\x02" + "\x00\x00\x63\x00\x00\x00\x00\x00\x00\x00\x00" + "\x00\x00\x29\x00\x03\x00\x00\x00\x00\x00\x00"},
	} {
		spells(t, what, c.m, c.want)
	}
}

func TestEncode(t *testing.T) {
	spells(t, "full", full(), "\x12\x34\x95\x03\x00\x02\x00\x02\x00\x03\x00\x07"+
		"\x03www\x01A\x00\x00\xff\x00\x01"+ // 12; A. at 16
		"\x00\x00\x00\xff\xff"+
		"\xc0\x0c\x00\x05\x00\x01\x00\x00\x00\x3c\x00\x04\x01w\xc0\x10"+ // 28; w.A. at 40
		"\xc0\x28\x00\x01\x00\x01\x00\x00\x00\x00\x00\x04\x01\x02\x03\x04"+ // 44
		"\xc0\x10\x00\x02\x00\x01\x7f\xff\xff\xff\x00\x05\x02ns\xc0\x10"+ // 60; ns.A. at 72
		"\xc0\x10\x00\x06\x00\x01\x00\x00\x00\x07\x00\x1c\xc0\x48\x02me\x01a\x00abcdefghijklmnopqrst"+ // 77
		"\xc0\x10\x00\x0f\x00\x01\x00\x00\x00\x08\x00\x07\xc0\x0c\x02mx\xc0\x10"+ // 117; mx.A. at 131
		"\xc0\x83\x00\x1c\x00\x03\x00\x00\x00\x09\x00\x10ABCDEFGHIJKLMNOP"+
		"\x01s\xc0\x10\x00\x21\x00\x01\x00\x00\x00\x0a\x00\x0c\x00\x01\x00\x02\x00\x03\x02mx\x01A\x00"+ // 164
		"\x01p\xc0\x10\x00\x0c\x00\x01\x00\x00\x00\x0b\x00\x02\xc0\x0c"+ // 190; p.A. at 190
		"\xc0\xbe\x00\x10\x00\x01\x00\x00\x00\x0c\x00\x05\x03\x01A\x00\x00"+
		"\xc0\xbe\x00\x63\x00\x00\x00\x00\x00\x0d\x00\x07\x03www\x01A\x00"+
		"\x00\xff\xff\xff\xff\x00\x00\x00\x0e\x00\x00"+
		"\x00\x00\x29\x04\xd0\x00\x00\x00\x00\x00\x00")
}

func TestEncodeNames(t *testing.T) {
	of := func(kind int, data string) api.Message {
		return api.Message{Answers: []api.RR{{Name: wire("x A"), Type: kind, Class: 1, Data: data}, {Name: wire("y A"), Type: 99, Class: 1}}}
	}
	head := "\x00\x00\x00\x00\x00\x00\x00\x02\x00\x00\x00\x00" + "\x01x\x01A\x00"
	fields := func(kind int) string { return two(kind) + "\x00\x01\x00\x00\x00\x00" }
	last := "\x00\x63\x00\x01\x00\x00\x00\x00\x00\x00"
	spells(t, "NS", of(api.NS, wire("y A")), head+fields(2)+"\x00\x04\x01y\xc0\x0e"+"\xc0\x1b"+last)
	spells(t, "CNAME", of(api.CNAME, wire("x A")), head+fields(5)+"\x00\x02\xc0\x0c"+"\x01y\xc0\x0e"+last)
	spells(t, "PTR", of(api.PTR, wire("y a")), head+fields(12)+"\x00\x05\x01y\x01a\x00"+"\x01y\xc0\x0e"+last)
	spells(t, "MX", of(api.MX, "ab"+wire("y A")), head+fields(15)+"\x00\x06ab\x01y\xc0\x0e"+"\xc0\x1d"+last)
	spells(t, "SOA", of(api.SOA, wire("y A")+wire("y A")+"ABCDEFGHIJKLMNOPQRST"), head+fields(6)+"\x00\x1a\x01y\xc0\x0e\xc0\x1bABCDEFGHIJKLMNOPQRST"+"\xc0\x1b"+last)
	spells(t, "SOA of Root", of(api.SOA, "\x00\x00ABCDEFGHIJKLMNOPQRST"), head+fields(6)+"\x00\x16\x00\x00ABCDEFGHIJKLMNOPQRST"+"\x01y\xc0\x0e"+last)
	// SRV's name is whole, and no place for others.
	spells(t, "SRV", of(api.SRV, "abcdef"+wire("y A")), head+fields(33)+"\x00\x0babcdef\x01y\x01A\x00"+"\x01y\xc0\x0e"+last)
	// Where no name is, bytes stay as they are.
	spells(t, "TXT", of(api.TXT, "\x01x\x01A\x00"), head+fields(16)+"\x00\x05\x01x\x01A\x00"+"\x01y\xc0\x0e"+last)
	spells(t, "an unknown type", of(98, wire("y A")), head+fields(98)+"\x00\x05\x01y\x01A\x00"+"\x01y\xc0\x0e"+last)
	spells(t, "names of Questions", api.Message{Questions: []api.Question{{Name: wire("b A")}, {Name: wire("A")}, {Name: wire("c b A")}}},
		"\x00\x00\x00\x00\x00\x03\x00\x00\x00\x00\x00\x00"+"\x01b\x01A\x00\x00\x00\x00\x00"+"\xc0\x0e\x00\x00\x00\x00"+"\x01c\xc0\x0c\x00\x00\x00\x00")
}

// big is a message of as many bytes as size, which is 2000 or more.
func big(size int) api.Message {
	m := api.Message{}
	for left := size - 12; left > 0; {
		n := min(left-11, 1000)
		if rest := left - 11 - n; 0 < rest && rest < 11 {
			n -= 11
		}
		m.Answers = append(m.Answers, api.RR{Name: "\x00", Type: 99, Class: 1, Data: strings.Repeat("x", n)})
		left -= 11 + n
	}
	return m
}

func TestEncodeBig(t *testing.T) {
	for size := 4080; size <= 4110; size++ {
		m := big(size)
		is(t, "how long the model's is", len(spelt(m)), size)
		b, e := message.Encode(m)
		if size <= 4096 {
			is(t, fmt.Sprintf("P4.2 Encode of %d bytes", size), []int{len(b), int(e)}, []int{size, 0})
			encodes(t, "many bytes", m)
		} else {
			is(t, fmt.Sprintf("P4.2 Encode of %d bytes", size), []int{len(b), int(e)}, []int{0, int(api.ErrBig)})
		}
	}
	much := slices.Repeat(big(2000).Answers[:1], 64)
	for _, m := range []api.Message{{Answers: much}, {Servers: much}, {Additional: much}, {Answers: much, Servers: much, Additional: much, EDNS: true}} {
		b, e := message.Encode(m)
		is(t, "P4.2 Encode of much", []int{len(b), int(e)}, []int{0, int(api.ErrBig)})
	}
	// The OPT counts, too.
	m := big(4096)
	m.EDNS = true
	_, e := message.Encode(m)
	is(t, "P4.2 Encode of 4107 bytes with EDNS", e, api.ErrBig)
	m = big(4085)
	m.EDNS = true
	encodes(t, "4096 bytes with EDNS", m)
	// As many as may be: squeezed, they fit.
	all := slices.Repeat([]api.RR{{Name: longest(), Type: api.CNAME, Class: 1, TTL: 1<<31 - 1, Data: longest()}}, 64)
	encodes(t, "64 of each section", api.Message{Answers: all, Servers: all, Additional: all, EDNS: true, Questions: slices.Repeat([]api.Question{{Name: longest(), Type: 65535}}, 4)})
	for i := range 65 {
		m := api.Message{Answers: all[:i], Servers: all[:i/2], Additional: all[:i]}
		encodes(t, fmt.Sprintf("%d records", i), m)
	}
}

func TestEncodeByChance(t *testing.T) {
	r := rand.New(rand.NewSource(6))
	for range 4000 {
		m := some(r)
		is(t, "P4.1 Check by chance", message.Check(m), true)
		encodes(t, "by chance", m)
	}
}

// fitted is what Fit should answer of a message that may be; none, if there is nothing.
func fitted(m api.Message, most int) string {
	for _, turn := range []func(){
		func() {},
		func() { m.Cut, m.Additional = true, nil },
		func() { m.Servers = nil },
		func() { m.Answers = nil },
	} {
		turn()
		if s := spelt(m); len(s) <= min(most, 4096) {
			return s
		}
	}
	return ""
}

// fits holds what Fit answers.
func fits(t *testing.T, what string, m api.Message, most int) {
	t.Helper()
	want := fitted(m, most)
	e := api.OK
	if want == "" {
		e = api.ErrBig
	}
	before := fmt.Sprintf("%#v", m)
	b, got := message.Fit(m, most)
	is(t, fmt.Sprintf("P4.4 Fit of %d: %s", most, what), string(b), want)
	is(t, fmt.Sprintf("P4.4 Fit of %d: %s", most, what), got, e)
	is(t, "P4.5 what is handed in to Fit", fmt.Sprintf("%#v", m), before)
}

func TestFit(t *testing.T) {
	m := few()
	// 12, and 7 of the question, and 17 of each record.
	for _, c := range []struct {
		most, size             int
		cut                    bool
		answers, servers, more int
	}{
		{math.MaxInt, 70, false, 1, 1, 1}, {71, 70, false, 1, 1, 1}, {70, 70, false, 1, 1, 1},
		{69, 53, true, 1, 1, 0}, {53, 53, true, 1, 1, 0},
		{52, 36, true, 1, 0, 0}, {36, 36, true, 1, 0, 0},
		{35, 19, true, 0, 0, 0}, {19, 19, true, 0, 0, 0},
	} {
		b, e := message.Fit(m, c.most)
		is(t, fmt.Sprintf("P4.4 Fit of %d", c.most), []int{len(b), int(e)}, []int{c.size, 0})
		x, _, _ := message.Decode(b)
		want := api.Message{Cut: c.cut, Questions: m.Questions, Answers: m.Answers[:c.answers], Servers: m.Servers[:c.servers], Additional: m.Additional[:c.more]}
		is(t, fmt.Sprintf("P4.4 Fit of %d", c.most), message.Same(x, want), true)
	}
	for _, most := range []int{18, 12, 1, 0, -1, math.MinInt} {
		b, e := message.Fit(m, most)
		is(t, fmt.Sprintf("P4.4 Fit of %d", most), []int{len(b), int(e)}, []int{0, int(api.ErrBig)})
	}
	for most := -2; most < len(spelt(full()))+2; most++ {
		fits(t, "full", full(), most)
	}
}

func TestFitBig(t *testing.T) {
	// Each section alone, and what is left of it: that a section is empty makes nothing fit.
	for what, m := range map[string]api.Message{
		"nothing":          {},
		"EDNS":             {EDNS: true, Size: 9},
		"a Question":       {Questions: few().Questions},
		"Cut already":      {Cut: true, Answers: few().Answers, Additional: few().Additional},
		"Answers":          {Answers: few().Answers},
		"Servers":          {Servers: few().Servers},
		"Additional":       {Additional: few().Additional, EDNS: true},
		"Answers, Servers": {Answers: few().Answers, Servers: few().Servers},
	} {
		for most := range 60 {
			fits(t, what, m, most)
		}
	}
	// More than MaxMsg is more than any number.
	small := few()
	for what, m := range map[string]api.Message{
		"big Answers":             {Answers: big(4097).Answers, Servers: small.Servers, Additional: small.Additional, Questions: small.Questions},
		"big Servers":             {Answers: small.Answers, Servers: big(5000).Answers, Additional: small.Additional},
		"big Additional":          {Answers: small.Answers, Servers: small.Servers, Additional: big(9000).Answers, EDNS: true},
		"big with all, not alone": {Answers: big(2000).Answers, Servers: big(2000).Answers, Additional: big(2000).Answers},
	} {
		for _, most := range []int{0, 12, 40, 100, 1999, 2000, 3990, 4095, 4096, 4097, 9999, math.MaxInt} {
			fits(t, what, m, most)
		}
	}
	r := rand.New(rand.NewSource(7))
	for range 2000 {
		m := some(r)
		fits(t, "by chance", m, r.Intn(len(spelt(m))+2))
	}
}

// What may not be is refused, though the part that may not be would be left out.
func TestFitWrong(t *testing.T) {
	for _, most := range []int{-1, 0, 12, 30, 40, 60, 512, 9999} {
		m := few()
		m.Additional[0].Data = ""
		b, e := message.Fit(m, most)
		is(t, fmt.Sprintf("P4.4 Fit of %d of what may not be", most), []int{len(b), int(e)}, []int{0, int(api.ErrArg)})
	}
}

func TestEncodeMemory(t *testing.T) {
	m := full()
	m.Answers = append(make([]api.RR, 0, 9), m.Answers...)
	m.Additional = append(make([]api.RR, 0, 9), m.Additional...)
	m.Questions = append(make([]api.Question, 0, 9), m.Questions...)
	all := func() string {
		return fmt.Sprintf("%#v %#v %#v %#v", m, m.Answers[:9], m.Additional[:9], m.Questions[:9])
	}
	before := all()
	b, _ := message.Encode(m)
	c, _ := message.Encode(m)
	message.Fit(m, 100)
	message.Check(m)
	message.Same(m, m)
	for range message.Records(m) {
	}
	is(t, "P4.5 what is handed in, its spare room", all(), before)
	clear(b)
	is(t, "P4.5 what is answered is new memory", string(c), spelt(full()))
	f, _ := message.Fit(m, 9999)
	clear(c)
	is(t, "P4.5 what is answered is new memory", string(f), spelt(full()))
}
