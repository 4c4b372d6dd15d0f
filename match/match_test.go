package match_test

import (
	"fmt"
	"math"
	"slices"
	"testing"

	"freshet/api"
	"freshet/match"
	"freshet/message"
)

// question is what is asked in tests of nothing else.
func question() api.Question { return api.Question{Name: wire("www A"), Type: api.A, Class: api.IN} }

func TestAsk(t *testing.T) {
	for _, id := range []struct{ id, lowest int }{
		{0, 0}, {1, 1}, {5, 5}, {0x1234, 0x1234}, {65534, 65534}, {65535, 65535}, {65536, 0}, {65537, 1}, {0x12345, 0x2345},
		{-1, 65535}, {-2, 65534}, {-65535, 1}, {-65536, 0}, {-65537, 65535}, {1<<40 + 7, 7}, {math.MaxInt, 65535}, {math.MinInt, 0}, {math.MinInt + 9, 9},
	} {
		q := question()
		want := api.Message{ID: id.lowest, Questions: []api.Question{q}, EDNS: true, Size: 1232}
		tells(t, fmt.Sprintf("P5.1 Ask of ID %d", id.id), match.Ask(id.id, q), want)
	}
	for id := range 65536 {
		if got := match.Ask(id, question()).ID; got != id {
			t.Errorf("P5.1 Ask of ID %d: %d", id, got)
		}
	}
	// What is asked stands as it is, whatever it is.
	for _, q := range []api.Question{
		{}, {Name: "\x00"}, {Name: wire("WWW a"), Type: api.OPT, Class: 255}, {Name: longest(), Type: 65535, Class: 65535},
		{Name: "\x00", Type: -1, Class: -1}, {Name: "\x00", Type: math.MaxInt, Class: math.MinInt},
	} {
		tells(t, fmt.Sprintf("P5.1 Ask of %#v", q), match.Ask(7, q), api.Message{ID: 7, Questions: []api.Question{q}, EDNS: true, Size: 1232})
	}
	for _, n := range wrong() {
		is(t, "P5.1 Ask of what is no name", match.Ask(7, api.Question{Name: n}).Questions, []api.Question{{Name: n}})
	}
	q := question()
	if m := match.Ask(7, q); shares(m.Questions[0].Name, q.Name) {
		t.Error("P5.3 Ask tells what was handed in")
	}
}

// answer is what answers Ask(7, question()), turned in a way.
func answer(turn func(m *api.Message)) api.Message {
	m := api.Message{ID: 7, Response: true, Questions: []api.Question{question()}}
	turn(&m)
	return m
}

func TestAnswers(t *testing.T) {
	asked := match.Ask(7, question())
	for what, turn := range map[string]func(m *api.Message){
		"as it was asked":   func(m *api.Message) {},
		"in other letters":  func(m *api.Message) { m.Questions[0].Name = wire("WWW a") },
		"Authority":         func(m *api.Message) { m.Authority = true },
		"Cut":               func(m *api.Message) { m.Cut = true },
		"Desired":           func(m *api.Message) { m.Desired = true },
		"Available":         func(m *api.Message) { m.Available = true },
		"a Code":            func(m *api.Message) { m.Code = api.ServFail },
		"a Code beyond all": func(m *api.Message) { m.Code = -1 },
		"EDNS":              func(m *api.Message) { m.EDNS, m.Size = true, 512 },
		"records": func(m *api.Message) {
			x := full()
			m.Answers, m.Servers, m.Additional = x.Answers, x.Servers, x.Additional
		},
	} {
		is(t, "P5.1 Answers: "+what, match.Answers(asked, answer(turn)), true)
	}
	for what, turn := range map[string]func(m *api.Message){
		"no Response":           func(m *api.Message) { m.Response = false },
		"an ID more":            func(m *api.Message) { m.ID = 8 },
		"an ID less":            func(m *api.Message) { m.ID = 6 },
		"ID 0":                  func(m *api.Message) { m.ID = 0 },
		"an ID of more digits":  func(m *api.Message) { m.ID = 7 + 65536 },
		"an ID below 0":         func(m *api.Message) { m.ID = 7 - 65536 },
		"Opcode 1":              func(m *api.Message) { m.Opcode = 1 },
		"Opcode 15":             func(m *api.Message) { m.Opcode = 15 },
		"Opcode -1":             func(m *api.Message) { m.Opcode = -1 },
		"no Question":           func(m *api.Message) { m.Questions = nil },
		"no Question, not nil":  func(m *api.Message) { m.Questions = []api.Question{} },
		"the Question twice":    func(m *api.Message) { m.Questions = append(m.Questions, question()) },
		"one Question more":     func(m *api.Message) { m.Questions = append(m.Questions, api.Question{}) },
		"one Question ahead":    func(m *api.Message) { m.Questions = []api.Question{{}, question()} },
		"another Type":          func(m *api.Message) { m.Questions[0].Type = api.NS },
		"any Type":              func(m *api.Message) { m.Questions[0].Type = 255 },
		"another Class":         func(m *api.Message) { m.Questions[0].Class = 3 },
		"the parent":            func(m *api.Message) { m.Questions[0].Name = wire("A") },
		"a name below":          func(m *api.Message) { m.Questions[0].Name = wire("x www A") },
		"a name as long":        func(m *api.Message) { m.Questions[0].Name = wire("wwv A") },
		"Root":                  func(m *api.Message) { m.Questions[0].Name = "\x00" },
		"no name":               func(m *api.Message) { m.Questions[0].Name = "" },
		"a name's text":         func(m *api.Message) { m.Questions[0].Name = "www.A." },
		"a name that is cut":    func(m *api.Message) { m.Questions[0].Name = "\x03www\x01A" },
		"nothing but the zeros": func(m *api.Message) { *m = api.Message{} },
	} {
		is(t, "P5.1 Answers: "+what, match.Answers(asked, answer(turn)), false)
	}
}

func TestAnswersWhatWasAsked(t *testing.T) {
	got := answer(func(m *api.Message) {})
	for what, turn := range map[string]func(m *api.Message){
		"all else":         func(m *api.Message) { was := *m; *m = full(); m.ID, m.Questions = was.ID, was.Questions },
		"in other letters": func(m *api.Message) { m.Questions[0].Name = wire("wWw a") },
		"no EDNS":          func(m *api.Message) { m.EDNS, m.Size = false, 0 },
	} {
		asked := match.Ask(7, question())
		turn(&asked)
		is(t, "P5.1 Answers what was asked: "+what, match.Answers(asked, got), true)
	}
	for what, turn := range map[string]func(m *api.Message){
		"no Question":          func(m *api.Message) { m.Questions = nil },
		"two Questions":        func(m *api.Message) { m.Questions = append(m.Questions, question()) },
		"an ID of more digits": func(m *api.Message) { m.ID += 65536 },
		"another Type":         func(m *api.Message) { m.Questions[0].Type = 65537 },
		"another Class":        func(m *api.Message) { m.Questions[0].Class = 0 },
	} {
		asked := match.Ask(7, question())
		turn(&asked)
		is(t, "P5.1 Answers what was asked: "+what, match.Answers(asked, got), false)
	}
	is(t, "P5.1 Answers: nothing asked", match.Answers(api.Message{}, api.Message{Response: true}), false)
	twice := api.Message{Response: true, Questions: []api.Question{question(), question()}}
	is(t, "P5.1 Answers: two asked, two answered", match.Answers(twice, twice), false)
	for _, n := range wrong() {
		asked := match.Ask(7, api.Question{Name: n})
		is(t, fmt.Sprintf("P5.1 Answers what is no name: %.30q", n), match.Answers(asked, match.Refuse(asked, 0)), false)
	}
}

func TestAnswersIDs(t *testing.T) {
	for id := range 65536 {
		asked := match.Ask(id, question())
		got := match.Refuse(asked, 0)
		ok := match.Answers(asked, got)
		for _, digit := range []int{0, 1, 7, 8, 15} {
			got.ID = id ^ 1<<digit
			ok = ok && !match.Answers(asked, got)
		}
		if !ok {
			t.Errorf("P5.1 Answers of ID %d", id)
		}
	}
}

// TestAnswersFromBytes holds that what went out and came back by its bytes answers.
func TestAnswersFromBytes(t *testing.T) {
	read := func(m api.Message) api.Message {
		b, e := message.Encode(m)
		is(t, "P5.1 Encode", e, api.OK)
		m, _, e = message.Decode(b)
		is(t, "P5.1 Decode", e, api.OK)
		return m
	}
	for _, n := range []string{"\x00", wire("a"), wire("www A"), longest(), "\x03a\x00b\x00"} {
		asked := match.Ask(-9, api.Question{Name: n, Type: api.MX, Class: api.IN})
		tells(t, "P5.1 Ask, by its bytes", read(asked), asked)
		reply := match.Reply(read(asked), api.NoError, []api.RR{address("w A", 1, 2)}, nil)
		is(t, "P5.1 Answers, by its bytes", match.Answers(asked, read(reply)), true)
	}
}

func TestRefuse(t *testing.T) {
	// Each yes and no of what is refused: what is taken from it, and what is not.
	for digits := range 64 {
		on := func(digit int) bool { return digits>>digit&1 == 1 }
		m := full()
		m.Response, m.Authority, m.Cut, m.Desired, m.Available, m.EDNS = on(0), on(1), on(2), on(3), on(4), on(5)
		want := api.Message{ID: 0x1234, Response: true, Opcode: 2, Desired: on(3), Available: true, Code: 5, Questions: full().Questions}
		if on(5) {
			want.EDNS, want.Size = true, 1232
		}
		tells(t, fmt.Sprintf("P5.1 Refuse of %b", digits), match.Refuse(m, 5), want)
		want.Answers, want.Servers = full().Servers, full().Additional
		tells(t, fmt.Sprintf("P5.1 Reply of %b", digits), match.Reply(m, 5, full().Servers, full().Additional), want)
	}
	available := api.Message{Response: true, Available: true}
	tells(t, "P5.1 Refuse of nothing", match.Refuse(api.Message{}, 0), available)
	tells(t, "P5.1 Reply of nothing", match.Reply(api.Message{}, 0, nil, nil), available)
	for _, v := range []int{0, 1, 2, 5, 9, 15, 16, 65535, 65536, -1, 1 << 40, math.MaxInt, math.MinInt} {
		is(t, "P5.1 Refuse's Code", match.Refuse(full(), v).Code, v)
		is(t, "P5.1 Reply's Code", match.Reply(full(), v, nil, nil).Code, v)
		m := full()
		m.ID, m.Opcode = v, v
		is(t, "P5.1 Refuse's ID and Opcode", []int{match.Refuse(m, 0).ID, match.Refuse(m, 0).Opcode}, []int{v, v})
	}
	for _, size := range []int{0, 511, 512, 1231, 1233, 4096, 65535, -1} {
		is(t, "P5.1 Refuse's Size", match.Refuse(api.Message{EDNS: true, Size: size}, 0).Size, 1232)
		is(t, "P5.1 Refuse's Size without EDNS", match.Refuse(api.Message{Size: size}, 0).Size, 0)
	}
	for count := range 9 {
		l := slices.Repeat(full().Questions[:1], count)
		got := match.Refuse(api.Message{Questions: l}, 0).Questions
		is(t, fmt.Sprintf("P5.1 Refuse of %d Questions", count), append([]api.Question{}, got...), append([]api.Question{}, l...))
	}
	for _, n := range wrong() {
		l := []api.Question{{Name: n, Type: -1, Class: -1}}
		is(t, "P5.1 Refuse of what is no name", match.Refuse(api.Message{Questions: l}, 0).Questions, l)
	}
}

func TestReply(t *testing.T) {
	m := full()
	for what, l := range map[string][2][]api.RR{
		"both":    {m.Answers, m.Servers},
		"answers": {m.Answers, nil},
		"servers": {nil, m.Servers},
		"alike":   {m.Answers, m.Answers},
		"wrong":   {{{}, {Name: "x", Type: -1, Class: 9, TTL: -1, Data: "y"}, {Type: api.OPT}}, {{}, {}}},
		"many":    {slices.Repeat(m.Answers, 100), slices.Repeat(m.Servers, 300)},
		"twice":   {slices.Repeat(m.Answers, 2), slices.Repeat(m.Servers, 2)},
	} {
		want := match.Refuse(m, 0)
		want.Answers, want.Servers = l[0], l[1]
		tells(t, "P5.1 Reply: "+what, match.Reply(m, 0, l[0], l[1]), want)
	}
	q := question()
	is(t, "P5.1 the example", match.Answers(match.Ask(5, q), match.Reply(match.Ask(5, q), 0, m.Answers, nil)), true)
}

func TestMemory(t *testing.T) {
	questions, allQuestions := roomy(full().Questions, question())
	records, allRecords := roomy(full().Answers, address("room", 1, 9))
	m := api.Message{Questions: questions, Answers: records, Servers: records, Additional: records}
	wasQuestions, wasRecords := slices.Clone(allQuestions), slices.Clone(allRecords)
	for _, r := range []api.Message{match.Refuse(m, 0), match.Reply(m, 0, records, records)} {
		for _, q := range questions {
			if shares(q.Name, r.Questions[0].Name) || shares(q.Name, r.Questions[1].Name) {
				t.Error("P5.3 Questions tell what was handed in")
			}
		}
		if sharesRecords(records, r.Answers) || sharesRecords(records, r.Servers) || sharesRecords(r.Answers, r.Servers) {
			t.Error("P5.3 records tell what was handed in, or each other's")
		}
		// Whatever is done with what is answered, nothing else is changed by it.
		r.Questions[0].Type = 77
		r.Questions = append(r.Questions, api.Question{Type: 78})
		if len(r.Answers) > 0 {
			r.Answers[0].TTL = 79
			is(t, "P5.3 lists of their own", r.Servers[0].TTL, full().Answers[0].TTL)
			r.Servers[1].TTL = 80
			is(t, "P5.3 lists of their own", r.Answers[1].TTL, full().Answers[1].TTL)
			r.Answers, r.Servers = append(r.Answers, api.RR{TTL: 81}), append(r.Servers, api.RR{TTL: 82})
		}
		is(t, "P5.3 Questions that were handed in", allQuestions, wasQuestions)
		is(t, "P5.3 records that were handed in", allRecords, wasRecords)
	}
	// And the other way round.
	r := match.Reply(m, 0, records, records)
	was := text(r)
	allQuestions[0], allRecords[0], allRecords[1].Data = api.Question{}, api.RR{}, ""
	is(t, "P5.3 what was answered", text(r), was)
}
