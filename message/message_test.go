package message_test

import (
	"fmt"
	"math"
	"math/rand"
	"slices"
	"strings"
	"testing"
	"unsafe"

	"freshet/api"
	"freshet/message"
)

// checked holds what Check answers, and that Encode and Fit refuse what may not be.
func checked(t *testing.T, what string, m api.Message, want bool) {
	t.Helper()
	is(t, "P4.1 Check: "+what, message.Check(m), want)
	b, e := message.Encode(m)
	is(t, "P4.2 Encode's ErrArg: "+what, e == api.ErrArg, !want)
	f, fe := message.Fit(m, 65535)
	is(t, "P4.4 Fit's ErrArg: "+what, fe == api.ErrArg, !want)
	if !want && len(b)+len(f) > 0 {
		t.Errorf("P4.2 %s: bytes beside an error", what)
	}
}

func TestCheckNumbers(t *testing.T) {
	beyond := []int{-1, -2, math.MinInt, math.MaxInt, 1 << 32, 1 << 16, 1<<16 + 1}
	for _, f := range []struct {
		what string
		most int
		turn func(m *api.Message, v int)
	}{
		{"ID", 65535, func(m *api.Message, v int) { m.ID = v }},
		{"Opcode", 15, func(m *api.Message, v int) { m.Opcode = v }},
		{"Code", 15, func(m *api.Message, v int) { m.Code = v }},
		{"Size", 65535, func(m *api.Message, v int) { m.Size = v }},
		{"a Question's Type", 65535, func(m *api.Message, v int) { m.Questions[1].Type = v }},
		{"a Question's Class", 65535, func(m *api.Message, v int) { m.Questions[1].Class = v }},
		{"a record's Class", 65535, func(m *api.Message, v int) { m.Servers[2].Class = v }},
	} {
		for _, v := range append([]int{0, 1, f.most - 1, f.most, f.most + 1}, beyond...) {
			m := full()
			f.turn(&m, v)
			checked(t, fmt.Sprintf("%s %d", f.what, v), m, 0 <= v && v <= f.most)
		}
	}
	for v := range 65536 {
		m := few()
		m.ID, m.Questions[0].Type, m.Questions[0].Class = v, v, v
		m.EDNS, m.Size = true, v
		if !message.Check(m) {
			t.Errorf("P4.1 Check of numbers %d", v)
		}
	}
	for _, v := range append([]int{1, 512, 65535}, beyond...) {
		m := few()
		m.Size = v
		checked(t, fmt.Sprintf("Size %d without EDNS", v), m, false)
	}
	checked(t, "nothing", api.Message{}, true)
	checked(t, "EDNS", api.Message{EDNS: true}, true)
	checked(t, "each yes and no", api.Message{Response: true, Authority: true, Cut: true, Desired: true, Available: true, EDNS: true}, true)
}

func TestCheckLists(t *testing.T) {
	for _, n := range wrong() {
		m := full()
		m.Questions[1].Name = n
		checked(t, fmt.Sprintf("a Question of %.30q", n), m, false)
	}
	for _, n := range []string{"\x00", wire("a"), longest(), strings.Repeat("\x01a", 127) + "\x00", "\x03a\x00b\x00"} {
		m := full()
		m.Questions[0].Name = n
		checked(t, fmt.Sprintf("a Question of %.30q", n), m, true)
	}
	for count := range 9 {
		q := slices.Repeat(full().Questions[:1], count)
		checked(t, fmt.Sprintf("%d Questions", count), api.Message{Questions: q}, count <= 4)
	}
	for section := range 3 {
		list := func(m *api.Message) *[]api.RR {
			return []*[]api.RR{&m.Answers, &m.Servers, &m.Additional}[section]
		}
		for _, count := range []int{0, 1, 63, 64, 65, 66, 128, 300} {
			m := few()
			*list(&m) = slices.Repeat(few().Answers, count)
			checked(t, fmt.Sprintf("%d records of section %d", count, section), m, count <= 64)
		}
		for what, turn := range map[string]func(r *api.RR){
			"Name":     func(r *api.RR) { r.Name = "" },
			"OPT":      func(r *api.RR) { r.Type = api.OPT },
			"Type 0":   func(r *api.RR) { r.Type = 0 },
			"Class":    func(r *api.RR) { r.Class = -1 },
			"TTL":      func(r *api.RR) { r.TTL = 1 << 31 },
			"TTL -1":   func(r *api.RR) { r.TTL = -1 },
			"Data":     func(r *api.RR) { r.Data = "abc" },
			"MaxData":  func(r *api.RR) { r.Type, r.Data = 99, strings.Repeat("x", 1001) },
			"a name":   func(r *api.RR) { r.Type, r.Data = api.NS, "\x01a" },
			"all of 0": func(r *api.RR) { *r = api.RR{} },
		} {
			for at := range 3 {
				m := few()
				l := slices.Repeat(few().Answers, 3)
				turn(&l[at])
				*list(&m) = l
				checked(t, fmt.Sprintf("%s of record %d of section %d", what, at, section), m, false)
			}
		}
	}
}

// walked is what Records walks over, up to most.
func walked(m api.Message, most int) []string {
	l := []string{}
	if most == 0 {
		return l
	}
	for section, r := range message.Records(m) {
		l = append(l, fmt.Sprintf("%d%#v", section, r))
		if len(l) == most {
			break
		}
	}
	return l
}

func TestRecords(t *testing.T) {
	m := full()
	m.Servers[1].Data, m.Additional[0].Type = "", -1 // walked over, whatever may be
	var want []string
	for section, l := range [][]api.RR{m.Answers, m.Servers, m.Additional} {
		for _, r := range l {
			want = append(want, fmt.Sprintf("%d%#v", section, r))
		}
	}
	is(t, "P4.1 Records: how many", len(want), 11)
	for most := range 13 {
		is(t, fmt.Sprintf("P4.1 %d of Records", most), walked(m, most), want[:min(most, 11)])
	}
	is(t, "P4.1 Records of nothing", walked(api.Message{}, 9), []string{})
	is(t, "P4.1 Records of questions", walked(api.Message{Questions: m.Questions, EDNS: true, Size: 9}, 9), []string{})
	is(t, "P4.1 Records of Additional alone", walked(api.Message{Additional: m.Additional[:1]}, 9), want[5:6])
	is(t, "P4.1 Records of Servers alone", walked(api.Message{Servers: m.Servers[:2]}, 9), want[2:4])
	walk := message.Records(m)
	for range 3 {
		var l []string
		for section, r := range walk {
			for range walk {
				break
			}
			l = append(l, fmt.Sprintf("%d%#v", section, r))
		}
		is(t, "P4.1 Records, walked more than once", l, want)
	}
}

func TestRecordsMemory(t *testing.T) {
	m := full()
	walk := message.Records(m)
	want := walked(m, 99)
	m.Answers[0], m.Servers[2].TTL, m.Additional[5].Data = api.RR{}, 99, "y"
	var l []string
	for section, r := range walk {
		l = append(l, fmt.Sprintf("%d%#v", section, r))
	}
	is(t, "P4.5 Records of what was handed in, and changed since", l, want)
	was := full()
	for _, r := range message.Records(was) {
		for _, x := range slices.Concat(was.Answers, was.Servers, was.Additional) {
			if shares(r.Name, x.Name) || shares(r.Data, x.Data) {
				t.Errorf("P4.5 Records tells what was handed in: %#v", r)
			}
		}
	}
}

// shares tells whether two texts stand in one piece of memory.
func shares(a, b string) bool {
	return a != "" && b != "" && unsafe.StringData(a) == unsafe.StringData(b)
}

func TestSame(t *testing.T) {
	same := func(what string, a, b api.Message, want bool) {
		t.Helper()
		is(t, "P4.4 Same: "+what, message.Same(a, b), want)
		is(t, "P4.4 Same, the other way round: "+what, message.Same(b, a), want)
	}
	same("itself", full(), full(), true)
	same("nothing", api.Message{}, api.Message{}, true)
	same("nil and empty", api.Message{}, api.Message{Questions: []api.Question{}, Answers: []api.RR{}, Servers: []api.RR{}, Additional: []api.RR{}}, true)
	for what, turn := range map[string]func(m *api.Message){
		"ID":                       func(m *api.Message) { m.ID++ },
		"Response":                 func(m *api.Message) { m.Response = false },
		"Opcode":                   func(m *api.Message) { m.Opcode = 3 },
		"Authority":                func(m *api.Message) { m.Authority = false },
		"Cut":                      func(m *api.Message) { m.Cut = true },
		"Desired":                  func(m *api.Message) { m.Desired = false },
		"Available":                func(m *api.Message) { m.Available = true },
		"Code":                     func(m *api.Message) { m.Code = 0 },
		"EDNS":                     func(m *api.Message) { m.EDNS = false },
		"Size":                     func(m *api.Message) { m.Size = 0 },
		"a Question's Name":        func(m *api.Message) { m.Questions[0].Name = wire("www B") },
		"a Question's Type":        func(m *api.Message) { m.Questions[0].Type = 1 },
		"a Question's Class":       func(m *api.Message) { m.Questions[1].Class = 1 },
		"no Questions":             func(m *api.Message) { m.Questions = nil },
		"one Question":             func(m *api.Message) { m.Questions = m.Questions[:1] },
		"one Question more":        func(m *api.Message) { m.Questions = append(m.Questions, m.Questions[0]) },
		"Questions' order":         func(m *api.Message) { slices.Reverse(m.Questions) },
		"no Answers":               func(m *api.Message) { m.Answers = nil },
		"one Answer less":          func(m *api.Message) { m.Answers = m.Answers[:1] },
		"one Answer twice":         func(m *api.Message) { m.Answers = append(m.Answers, m.Answers[1]) },
		"Answers' order":           func(m *api.Message) { slices.Reverse(m.Answers) },
		"an Answer's Name":         func(m *api.Message) { m.Answers[1].Name = wire("w B") },
		"an Answer's Type":         func(m *api.Message) { m.Answers[1].Type = 99 },
		"an Answer's Class":        func(m *api.Message) { m.Answers[1].Class = 3 },
		"an Answer's TTL":          func(m *api.Message) { m.Answers[1].TTL++ },
		"an Answer's Data":         func(m *api.Message) { m.Answers[1].Data = "abcd" },
		"no Servers":               func(m *api.Message) { m.Servers = nil },
		"Servers' order":           func(m *api.Message) { slices.Reverse(m.Servers) },
		"a Server's TTL":           func(m *api.Message) { m.Servers[2].TTL++ },
		"letters ahead of a name":  func(m *api.Message) { m.Servers[2].Data = "\xc0\x0d" + wire("mx A") },
		"letters behind the names": func(m *api.Message) { m.Servers[1].Data = wire("ns A") + wire("me a") + "Abcdefghijklmnopqrst" },
		"no Additional":            func(m *api.Message) { m.Additional = nil },
		"Additional's order":       func(m *api.Message) { slices.Reverse(m.Additional) },
		"letters of a text":        func(m *api.Message) { m.Additional[3].Data = "\x03\x01a\x00\x00" },
		"letters of no known type": func(m *api.Message) { m.Additional[4].Data = wire("www a") },
		"another section":          func(m *api.Message) { m.Answers, m.Servers = m.Servers, m.Answers },
		"names that are none":      func(m *api.Message) { m.Questions[0].Name = "" },
		"a name cut off":           func(m *api.Message) { m.Questions[0].Name = wire("A") },
	} {
		m := full()
		turn(&m)
		same(what, full(), m, false)
		same(what+", itself", m, m, true)
	}
	for what, turn := range map[string]func(m *api.Message){
		"a Question's Name": func(m *api.Message) { m.Questions[0].Name = wire("WWW a") },
		"a record's Name":   func(m *api.Message) { m.Answers[0].Name = wire("wWw a") },
		"CNAME's":           func(m *api.Message) { m.Answers[0].Data = wire("W a") },
		"NS'":               func(m *api.Message) { m.Servers[0].Data = wire("NS a") },
		"SOA's":             func(m *api.Message) { m.Servers[1].Data = wire("NS a") + wire("ME A") + "abcdefghijklmnopqrst" },
		"MX's":              func(m *api.Message) { m.Servers[2].Data = "\xc0\x0c" + wire("MX a") },
		"SRV's":             func(m *api.Message) { m.Additional[1].Data = "\x00\x01\x00\x02\x00\x03" + wire("MX a") },
		"PTR's":             func(m *api.Message) { m.Additional[2].Data = wire("WWW a") },
	} {
		m := full()
		turn(&m)
		same("in other letters, "+what, full(), m, true)
	}
}

func TestSameOfWrongNames(t *testing.T) {
	of := func(n string) api.Message { return api.Message{Questions: []api.Question{{Name: n}}} }
	for _, n := range wrong() {
		is(t, fmt.Sprintf("P4.4 Same of %.30q and itself", n), message.Same(of(n), of(n)), true)
		is(t, fmt.Sprintf("P4.4 Same of %.30q and Root", n), message.Same(of(n), of("\x00")), false)
	}
	is(t, "P4.4 Same of names that are none", message.Same(of("A"), of("a")), false)
}

// foldedText is what two that are the Same have alike; without the program's help.
func foldedText(m api.Message) string {
	m = clone(m)
	for i, q := range m.Questions {
		m.Questions[i].Name = strings.ToLower(q.Name)
	}
	for _, l := range [][]api.RR{m.Answers, m.Servers, m.Additional} {
		for i, r := range l {
			l[i].Name = strings.ToLower(r.Name)
			ahead := strings.Count(strings.TrimRight(form(r.Type), "B"), "B")
			end := ahead
			for range strings.Count(form(r.Type), "N") {
				end += nameSize(r.Data[end:])
			}
			l[i].Data = r.Data[:ahead] + strings.ToLower(r.Data[ahead:end]) + r.Data[end:]
		}
	}
	return text(m)
}

// clone is one in memory of its own.
func clone(m api.Message) api.Message {
	m.Questions, m.Answers = slices.Clone(m.Questions), slices.Clone(m.Answers)
	m.Servers, m.Additional = slices.Clone(m.Servers), slices.Clone(m.Additional)
	return m
}

// turned is one with a letter in it changed by chance, here or there.
func turned(r *rand.Rand, m api.Message) api.Message {
	m = clone(m)
	letter := func(s string) string {
		if s == "" {
			return s
		}
		at := r.Intn(len(s))
		if c := s[at] ^ 32; c|32 >= 'a' && c|32 <= 'z' {
			return s[:at] + string([]byte{c}) + s[at+1:]
		}
		return s
	}
	if len(m.Questions) > 0 && r.Intn(2) == 0 {
		m.Questions[0].Name = letter(m.Questions[0].Name)
	}
	for _, l := range [][]api.RR{m.Answers, m.Servers, m.Additional} {
		for i := range l {
			switch r.Intn(8) {
			case 0, 1:
				l[i].Name = letter(l[i].Name)
			case 2, 3:
				l[i].Data = letter(l[i].Data)
			case 4:
				l[i].TTL += r.Intn(2)
			}
		}
	}
	return m
}

func TestSameByChance(t *testing.T) {
	r := rand.New(rand.NewSource(5))
	alike := 0
	for range 5000 {
		a := some(r)
		b := turned(r, a)
		want := foldedText(a) == foldedText(b)
		if got := message.Same(a, b); got != want {
			t.Errorf("P4.4 Same(%#v, %#v): %v", a, b, got)
		}
		if want && text(a) != text(b) {
			alike++
		}
	}
	if alike < 200 {
		t.Errorf("P4.4 by chance: only %d are the Same in other letters", alike)
	}
}
