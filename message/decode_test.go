package message_test

import (
	"fmt"
	"math/rand"
	"slices"
	"strings"
	"testing"

	"freshet/api"
	"freshet/message"
)

// told is what Decode tells of a message that it reads.
func told(t *testing.T, what, b string) api.Message {
	t.Helper()
	reads(t, what, b)
	m, _, _ := message.Decode([]byte(b))
	return m
}

func TestDecodeShort(t *testing.T) {
	b := spelt(full())
	for size := range 12 {
		m, head, e := message.Decode([]byte(b[:size]))
		is(t, fmt.Sprintf("P4.3 Decode of %d bytes", size), []any{text(m), head, e}, []any{text(api.Message{}), false, api.ErrBad})
	}
	m, head, e := message.Decode(nil)
	is(t, "P4.3 Decode of nil", []any{text(m), head, e}, []any{text(api.Message{}), false, api.ErrBad})
	fields := api.Message{ID: 0x1234, Response: true, Opcode: 2, Authority: true, Desired: true, Code: 3}
	for size := 12; size < len(b); size++ {
		m, head, e := message.Decode([]byte(b[:size]))
		is(t, fmt.Sprintf("P4.3 Decode of the first %d bytes", size), []any{text(m), head, e}, []any{text(fields), true, api.ErrBad})
	}
	reads(t, "P4.3 all of it", b)
	for behind := range 256 {
		refuses(t, "P4.3 a byte behind", b+string([]byte{byte(behind)}))
	}
	refuses(t, "P4.3 bytes behind nothing", strings.Repeat("\x00", 13))
	refuses(t, "P4.3 twice", b+b)
}

func TestDecodeHead(t *testing.T) {
	none := strings.Repeat("\x00", 8)
	for d := range 65536 {
		b := []byte("\xab\xcd" + two(d) + none)
		m, head, e := message.Decode(b)
		want := api.Message{
			ID: 0xabcd, Response: d/32768 == 1, Opcode: d / 2048 % 16, Authority: d/1024%2 == 1, Cut: d/512%2 == 1,
			Desired: d/256%2 == 1, Available: d/128%2 == 1, Code: d % 16,
		}
		if text(m) != text(want) || !head || (e == api.OK) != (d/16%8 == 0) || e != api.OK && e != api.ErrBad {
			t.Fatalf("P4.3 Decode of digits %x: %#v %v %d", d, m, head, e)
		}
	}
	for id := range 65536 {
		m, _, e := message.Decode([]byte(two(id) + "\x00\x00" + none))
		if m.ID != id || e != api.OK {
			t.Fatalf("P4.3 Decode of ID %d: %d %d", id, m.ID, e)
		}
	}
	// What is there must be there: each number of its own.
	for place := 4; place < 12; place++ {
		b := []byte("\xab\xcd\x00\x00" + none)
		b[place] = 1
		refuses(t, fmt.Sprintf("P4.3 byte %d", place), string(b))
	}
}

func TestDecodeCounts(t *testing.T) {
	q := "\x00\x00\x01\x00\x01"
	for count := range 9 {
		b := headOf(count, 0, 0, 0) + strings.Repeat(q, count)
		if count <= 4 {
			is(t, "P4.3 Questions", len(told(t, "P4.3 Questions", b).Questions), count)
		} else {
			refuses(t, fmt.Sprintf("P4.3 %d Questions", count), b)
		}
		refuses(t, "P4.3 one Question more", headOf(count+1, 0, 0, 0)+strings.Repeat(q, count))
		refuses(t, "P4.3 one Question less", headOf(count, 0, 0, 0)+strings.Repeat(q, count+1))
	}
	x := rr("\x00", 99, 1, 5, "")
	opt := rr("\x00", 41, 1, 5, "")
	for section := range 3 {
		head := func(count int) string {
			counts := [3]int{}
			counts[section] = count
			return headOf(0, counts[0], counts[1], counts[2])
		}
		for _, count := range []int{0, 1, 2, 63, 64, 65, 66, 100, 256} {
			what := fmt.Sprintf("P4.3 %d records of section %d", count, section)
			if count <= 64 {
				m := told(t, what, head(count)+strings.Repeat(x, count))
				is(t, what, len([][]api.RR{m.Answers, m.Servers, m.Additional}[section]), count)
			} else {
				refuses(t, what, head(count)+strings.Repeat(x, count))
			}
			refuses(t, what+", less one", head(count+1)+strings.Repeat(x, count))
		}
		refuses(t, "P4.3 as many as can be told of", head(65535)+strings.Repeat(x, 64))
		if section == 2 {
			reads(t, "P4.3 64 records, and an OPT", head(65)+strings.Repeat(x, 64)+opt)
			reads(t, "P4.3 an OPT, and 64 records", head(65)+opt+strings.Repeat(x, 64))
			reads(t, "P4.3 64 records, an OPT among them", head(65)+strings.Repeat(x, 30)+opt+strings.Repeat(x, 34))
			refuses(t, "P4.3 65 records, and an OPT", head(66)+strings.Repeat(x, 65)+opt)
		}
	}
	reads(t, "P4.3 64 of each", headOf(4, 64, 64, 64)+strings.Repeat(q, 4)+strings.Repeat(x, 192))
	refuses(t, "P4.3 as many as can be told of", headOf(65535, 65535, 65535, 65535)+strings.Repeat(q, 4)+strings.Repeat(x, 192))
	m := told(t, "P4.3 one of each", headOf(1, 1, 1, 1)+q+rr("\x00", 99, 1, 5, "a")+rr("\x00", 99, 1, 6, "b")+rr("\x00", 99, 1, 7, "c"))
	is(t, "P4.3 one of each", []string{m.Answers[0].Data, m.Servers[0].Data, m.Additional[0].Data}, []string{"a", "b", "c"})
}

func TestDecodeOPT(t *testing.T) {
	x := rr("\x00", 99, 1, 5, "")
	opt := rr("\x00", 41, 1232, 0, "")
	m := told(t, "P4.3 an OPT", headOf(0, 0, 0, 1)+opt)
	is(t, "P4.3 an OPT", []any{m.EDNS, m.Size, len(m.Additional)}, []any{true, 1232, 0})
	m = told(t, "P4.3 no OPT", headOf(0, 0, 0, 1)+x)
	is(t, "P4.3 no OPT", []any{m.EDNS, m.Size, len(m.Additional)}, []any{false, 0, 1})
	for at := range 4 {
		b := headOf(0, 1, 1, 4) + strings.Repeat(x, 2+at) + opt + strings.Repeat(x, 3-at)
		m := told(t, "P4.3 an OPT among others", b)
		is(t, "P4.3 an OPT among others", []any{m.EDNS, m.Size, len(m.Answers), len(m.Servers), len(m.Additional)}, []any{true, 1232, 1, 1, 3})
	}
	for _, size := range []int{0, 1, 511, 512, 4096, 32768, 65535} {
		is(t, "P4.3 an OPT's Class", told(t, "P4.3 an OPT's Class", headOf(0, 0, 0, 1)+rr("\x00", 41, size, 0, "")).Size, size)
	}
	// Whatever else it has: its TTL, and any data that is there.
	for _, ttl := range []int{1, 1<<31 - 1, 1 << 31, 1<<32 - 1} {
		reads(t, "P4.3 an OPT's TTL", headOf(0, 0, 0, 1)+rr("\x00", 41, 1, ttl, ""))
	}
	for _, size := range []int{1, 2, 999, 1000, 1001, 3000, 4096 - 12 - 11} {
		reads(t, "P4.3 an OPT's data", headOf(0, 0, 0, 1)+rr("\x00", 41, 1, 0, strings.Repeat("\xc0", size)))
	}
	b := headOf(0, 0, 0, 1) + rr("\x00", 41, 1, 0, "abcd")
	for cut := range 15 {
		refuses(t, "P4.3 an OPT that is cut off", b[:len(b)-1-cut])
	}
	refuses(t, "P4.3 behind an OPT", b+"x")
	refuses(t, "P4.3 two OPTs", headOf(0, 0, 0, 2)+opt+opt)
	refuses(t, "P4.3 two OPTs, and others", headOf(0, 0, 0, 4)+opt+x+opt+x)
	refuses(t, "P4.3 two OPTs of Size 0", headOf(0, 0, 0, 2)+rr("\x00", 41, 0, 0, "")+rr("\x00", 41, 0, 0, ""))
	refuses(t, "P4.3 an OPT in Answers", headOf(0, 1, 0, 0)+opt)
	refuses(t, "P4.3 an OPT in Servers", headOf(0, 0, 1, 0)+opt)
	refuses(t, "P4.3 an OPT in Answers, and one in Additional", headOf(0, 1, 0, 1)+opt+opt)
	refuses(t, "P4.3 an OPT in Servers, and none in Additional", headOf(0, 0, 1, 1)+opt+x)
	refuses(t, "P4.3 an OPT of a name", headOf(0, 0, 0, 1)+rr(wire("a"), 41, 1232, 0, ""))
	refuses(t, "P4.3 an OPT of a name, by a pointer", headOf(1, 0, 0, 1)+wire("a")+"\x00\x01\x00\x01"+rr("\xc0\x0c", 41, 1232, 0, ""))
	reads(t, "P4.3 an OPT of Root, by a pointer", headOf(1, 0, 0, 1)+wire("a")+"\x00\x01\x00\x01"+rr("\xc0\x0e", 41, 1232, 0, ""))
	// A Question may ask for one.
	reads(t, "P4.3 a Question of OPT", headOf(2, 0, 0, 1)+strings.Repeat("\x00\x00\x29\x00\x01", 2)+opt)
}

func TestDecodeRecord(t *testing.T) {
	one := func(b string) string { return headOf(0, 1, 0, 0) + b }
	for _, c := range []struct{ ttl, want int }{{0, 0}, {1, 1}, {1<<31 - 1, 1<<31 - 1}, {1 << 31, 0}, {1<<31 + 1, 0}, {1<<32 - 1, 0}, {0x01020304, 0x01020304}, {0x81020304, 0}} {
		m := told(t, "P4.3 a TTL", one(rr("\x00", 99, 1, c.ttl, "")))
		is(t, fmt.Sprintf("P4.3 TTL %d", c.ttl), m.Answers[0].TTL, c.want)
	}
	for kind := range 65536 {
		b := one(rr("\x00", kind, kind, 0, "\x03abc"))
		m, _, e := message.Decode([]byte(b))
		ok := kind != 0 && kind != 41 && !slices.Contains([]int{2, 5, 6, 12, 15, 28, 33}, kind)
		if (e == api.OK) != ok || ok && (m.Answers[0].Type != kind || m.Answers[0].Class != kind) {
			t.Errorf("P4.3 a record of type %d: %d %#v", kind, e, m)
		}
	}
	for size := range 1100 {
		b := one(rr("\x00", 99, 1, 0, strings.Repeat("x", size)))
		if size <= 1000 {
			is(t, "P4.3 data", len(told(t, "P4.3 data", b).Answers[0].Data), size)
		} else {
			refuses(t, fmt.Sprintf("P4.3 data of %d bytes", size), b)
		}
	}
	const texts = "\x01x\x00\x02ab\x01x\x01y\x00\x00\x02ab\x00xy"
	for size := range len(texts) + 1 {
		for _, kind := range []int{1, 28, 16, 99} {
			asParsed(t, fmt.Sprintf("P4.3 %d bytes of type %d", size, kind), []byte(one(rr("\x00", kind, 1, 0, texts[:size]))))
		}
	}
	reads(t, "P4.3 A", one(rr("\x00", 1, 1, 0, "abcd")))
	reads(t, "P4.3 AAAA", one(rr("\x00", 28, 1, 0, "abcdabcdabcdabcd")))
	refuses(t, "P4.3 A", one(rr("\x00", 1, 1, 0, "abc")))
	refuses(t, "P4.3 A", one(rr("\x00", 1, 1, 0, "abcde")))
	reads(t, "P4.3 TXT", one(rr("\x00", 16, 1, 0, "\x00\x01\xc0")))
	refuses(t, "P4.3 TXT of nothing", one(rr("\x00", 16, 1, 0, "")))
	refuses(t, "P4.3 TXT cut off", one(rr("\x00", 16, 1, 0, "\x02a")))
	// A record that is wrong is wrong in each section, and so is all that is ahead and behind.
	bad, good := rr("\x00", 1, 1, 0, "abc"), rr("\x00", 1, 1, 0, "abcd")
	for section := range 3 {
		for at := range 3 {
			counts := [3]int{1, 1, 1}
			counts[section] = 3
			l := slices.Repeat([]string{good}, 5)
			l[section+at] = bad
			refuses(t, "P4.3 a bad record", headOf(0, counts[0], counts[1], counts[2])+strings.Join(l, ""))
		}
	}
}

func TestDecodeNames(t *testing.T) {
	// A question of www.A. at 12, of which A. is at 16, and Root at 18; the record's name at 23, its data at 35.
	asked := headOf(1, 1, 0, 0) + "\x03www\x01A\x00\x00\x01\x00\x01"
	of := func(kind int, data string) string { return asked + rr("\xc0\x0c", kind, 1, 5, data) }
	numbers := "abcdefghijklmnopqrst"
	for _, c := range []struct {
		what string
		kind int
		data string
		want string
	}{
		{"NS", 2, "\x02ns\xc0\x10", wire("ns A")},
		{"CNAME", 5, "\xc0\x0c", wire("www A")},
		{"PTR", 12, "\xc0\x12", "\x00"},
		{"PTR, whole", 12, "\x01x\x01y\x00", wire("x y")},
		{"PTR, by the record's name", 12, "\x01x\xc0\x17", wire("x www A")},
		{"MX", 15, "\xc0\x0c\x02mx\xc0\x10", "\xc0\x0c" + wire("mx A")},
		{"SRV", 33, "\xc0\x0c\xc0\x0c\xc0\x0c\x01s\xc0\x10", "\xc0\x0c\xc0\x0c\xc0\x0c" + wire("s A")},
		{"SOA", 6, "\xc0\x0c\x02me\xc0\x10" + numbers, wire("www A") + wire("me A") + numbers},
		{"SOA, the second by the first", 6, "\x01n\xc0\x10\xc0\x23" + numbers, wire("n A") + wire("n A") + numbers},
		{"SOA, whole", 6, wire("x") + wire("y") + numbers, wire("x") + wire("y") + numbers},
		{"SOA of Root", 6, "\x00\x00" + numbers, "\x00\x00" + numbers},
		{"TXT", 16, "\x02\xc0\x0c", "\x02\xc0\x0c"},
		{"an unknown type", 99, "\xc0\x0c", "\xc0\x0c"},
		{"into its data's numbers", 15, "\x01x\xc0\x12", "\x01x\x00"},
	} {
		m := told(t, "P4.3 "+c.what, of(c.kind, c.data))
		is(t, "P4.3 "+c.what, []string{m.Answers[0].Name, m.Answers[0].Data}, []string{wire("www A"), c.want})
		if c.kind == 16 || c.kind == 99 {
			continue
		}
		// A byte more or less is wrong, whatever stands behind.
		refuses(t, "P4.3 a byte more: "+c.what, of(c.kind, c.data+"\x00"))
		b := of(c.kind, c.data)
		at := len(asked) + 10
		for _, size := range []int{len(c.data) - 1, len(c.data) + 1, 0, 1, 2, 65535} {
			for _, tail := range []string{"", "\x00", "\x00\x00\x00\x00"} {
				if size != len(c.data) {
					refuses(t, fmt.Sprintf("P4.3 data told as %d bytes: %s", size, c.what), b[:at]+two(size)+b[at+2:]+tail)
				}
			}
		}
	}
	for _, c := range []struct {
		what string
		kind int
		data string
	}{
		{"no data", 2, ""},
		{"no name", 15, "ab"},
		{"not even numbers", 15, "a"},
		{"not even numbers", 33, "abc"},
		{"no second name", 6, "\xc0\x0c"},
		{"no numbers", 6, "\xc0\x0c\xc0\x0c"},
		{"a number less", 6, "\xc0\x0c\xc0\x0c" + numbers[1:]},
		{"a byte 64", 2, "\x40\x00"},
		{"a byte 191", 2, "\xbf\x00"},
		{"a pointer to itself", 2, "\xc0\x23"},
		{"a pointer within its part", 2, "\x01x\xc0\x23"},
		{"a pointer behind", 2, "\xc0\x24"},
		{"a pointer out of the message", 2, "\xff\xff"},
		{"half a pointer", 2, "\x01x\xc0"},
		{"a name without end", 2, "\x01x"},
		{"a label cut off", 2, "\x05xxx"},
		{"a wrong second name", 6, "\xc0\x0c\xc0\x99" + numbers},
		{"a wrong name in SRV", 33, "abcdef\xc0\x99"},
		{"two names", 12, "\xc0\x0c\xc0\x0c"},
	} {
		refuses(t, "P4.3 "+c.what, of(c.kind, c.data))
		refuses(t, "P4.3 "+c.what+", and a byte 0", of(c.kind, c.data)+"\x00")
	}
	// A name that ends behind its data's end, though the bytes are there: the next record's.
	b := headOf(0, 2, 0, 0) + rr("\x00", 2, 1, 0, "\x01a") + rr("\x00", 99, 1, 0, "")
	refuses(t, "P4.3 a name that ends behind its data", b)
}

func TestDecodeOwners(t *testing.T) {
	question := func(n string) string { return headOf(1, 0, 0, 0) + n + "\x00\x01\x00\x02" }
	for _, n := range []string{"\x00", wire("a"), wire("W w.w \x00"), longest(), strings.Repeat("\x01a", 127) + "\x00"} {
		m := told(t, "P4.3 a Question", question(n))
		is(t, "P4.3 a Question", m.Questions, []api.Question{{Name: n, Type: 1, Class: 2}})
		m = told(t, "P4.3 a record", headOf(0, 0, 1, 0)+rr(n, 1, 1, 1, "abcd"))
		is(t, "P4.3 a record", m.Servers, []api.RR{{Name: n, Type: 1, Class: 1, TTL: 1, Data: "abcd"}})
	}
	for _, n := range []string{"\x40" + strings.Repeat("a", 64) + "\x00", "\xc0\x0c", "\xc0\x0d", "\xc1\x00", "\x01a\xc0\x0c", "\x80\x00", strings.Repeat("\x01a", 128) + "\x00", "\x01e" + longest()} {
		refuses(t, "P4.3 a Question", question(n))
		refuses(t, "P4.3 a record", headOf(0, 0, 1, 0)+rr(n, 1, 1, 1, "abcd"))
	}
	// A pointer may go into the head, too: at 4 and 5 is how many Questions there are, 0 and 1, and behind it are zeros.
	m := told(t, "P4.3 a pointer into the head", question("\xc0\x04"))
	is(t, "P4.3 a pointer into the head", m.Questions[0].Name, "\x00")
	m = told(t, "P4.3 a pointer to a label in the head", question("\xc0\x05"))
	is(t, "P4.3 a pointer to a label in the head", m.Questions[0].Name, "\x01\x00\x00")
	refuses(t, "P4.3 a pointer to the ID", question("\xc0\x00"))
	for _, numbers := range []string{"", "\x00", "\x00\x01", "\x00\x01\x00"} {
		refuses(t, "P4.3 a Question cut off", headOf(1, 0, 0, 0)+"\x00"+numbers)
	}
	for kind := range 65536 {
		b := headOf(1, 0, 0, 0) + "\x00" + two(kind) + two(65535-kind)
		if m, _, e := message.Decode([]byte(b)); e != api.OK || m.Questions[0].Type != kind || m.Questions[0].Class != 65535-kind {
			t.Errorf("P4.3 a Question of type %d: %#v %d", kind, m, e)
		}
	}
}

func TestDecodeBig(t *testing.T) {
	for size := 4090; size <= 4100; size++ {
		b := spelt(big(size))
		if size <= 4096 {
			reads(t, fmt.Sprintf("P4.3 %d bytes", size), b)
			continue
		}
		refuses(t, fmt.Sprintf("P4.3 %d bytes", size), b)
	}
	for _, size := range []int{4097, 1 << 16, 1 << 20} {
		b := headOf(65535, 65535, 65535, 65535) + strings.Repeat("\x01", size-12)
		m, head, e := message.Decode([]byte(b))
		is(t, fmt.Sprintf("P4.3 %d bytes", size), []any{text(m), head, e}, []any{text(api.Message{ID: 0x1234}), true, api.ErrBad})
	}
}

// spoilt is a message of which something was cut off, added or changed.
func spoilt(r *rand.Rand, b string) string {
	for range 1 + r.Intn(2) {
		at := r.Intn(len(b) + 1)
		c := string([]byte{[]byte{0, 0, 1, 2, 3, 4, 12, 41, 63, 64, 128, 192, 193, 255, byte(r.Intn(256))}[r.Intn(15)]})
		switch {
		case at == len(b) || r.Intn(6) == 0:
			b = b[:at] + c + b[at:]
		case r.Intn(5) == 0:
			b = b[:at] + b[at+1:]
		default:
			b = b[:at] + c + b[at+1:]
		}
	}
	return b
}

func TestDecodeByChance(t *testing.T) {
	r := rand.New(rand.NewSource(8))
	read, refused := 0, 0
	for range 30000 {
		if asParsed(t, "P4.3 by chance", []byte(spoilt(r, spelt(some(r))))) {
			read++
		} else {
			refused++
		}
	}
	if read < 3000 || refused < 3000 {
		t.Errorf("P4.3 by chance: %d read, %d refused", read, refused)
	}
	b := spelt(full())
	for at := range len(b) {
		for c := range 256 {
			asParsed(t, fmt.Sprintf("P4.3 byte %d is %d", at, c), []byte(b[:at]+string([]byte{byte(c)})+b[at+1:]))
		}
	}
}

func TestDecodeMemory(t *testing.T) {
	b := append(make([]byte, 0, 4000), spelt(full())...)
	spare := b[:4000]
	before := string(spare)
	m, _, e := message.Decode(b)
	is(t, "P4.5 Decode", []any{text(m), e}, []any{text(full()), api.OK})
	is(t, "P4.5 what is handed in, its spare room", string(spare), before)
	clear(spare)
	is(t, "P4.5 what is answered is new memory", text(m), text(full()))
	// What is behind the end is not read, whatever is there.
	copy(spare, before)
	for size := range b {
		refuses(t, "P4.3 cut off ahead of its spare room", string(b[:size]))
		if _, _, e := message.Decode(spare[:size]); e != api.ErrBad {
			t.Errorf("P4.3 Decode reads beyond %d bytes", size)
		}
	}
	// No two lists are one.
	x, _, _ := message.Decode([]byte(before[:len(spelt(full()))]))
	_ = append(x.Answers, api.RR{Name: "other"})
	_ = append(x.Questions, api.Question{Name: "other"})
	is(t, "P4.5 lists of their own", text(x), text(full()))
}

// FuzzDecode holds that whatever comes is read as the model reads it, and what was read is written so that it is read again.
func FuzzDecode(f *testing.F) {
	f.Add([]byte(spelt(full())))
	f.Add([]byte(spelt(few())))
	f.Add([]byte(headOf(1, 0, 0, 1) + "\xc0\x04\x00\x01\x00\x01" + rr("\x00", 41, 1232, 0, "abcd")))
	f.Fuzz(func(t *testing.T, b []byte) {
		if !asParsed(t, "P4.3", b) {
			return
		}
		m, _, _ := message.Decode(b)
		is(t, "P4.1 Check of what was read", message.Check(m), true)
		encodes(t, "what was read", m)
	})
}
