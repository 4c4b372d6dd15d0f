package rank_test

import (
	"fmt"
	"math"
	"math/rand"
	"testing"

	"freshet/api"
	"freshet/message"
	"freshet/rank"
)

func TestRanks(t *testing.T) {
	is(t, "the ranks", []int{rank.Extra, rank.Referral, rank.Answer, rank.Zone, rank.Sure, rank.Hint}, []int{0, 1, 2, 3, 4, 9})
}

func TestOf(t *testing.T) {
	for _, x := range []struct {
		section       int
		with, without int
	}{
		{0, rank.Sure, rank.Answer}, {1, rank.Zone, rank.Referral}, {2, rank.Extra, rank.Extra},
	} {
		is(t, fmt.Sprintf("P12.1 Of(%d, true)", x.section), rank.Of(x.section, true), x.with)
		is(t, fmt.Sprintf("P12.1 Of(%d, false)", x.section), rank.Of(x.section, false), x.without)
	}
}

// Sections that there are none of are like the last one.
func TestOfOthers(t *testing.T) {
	for _, section := range ends() {
		if section == 0 || section == 1 {
			continue
		}
		is(t, fmt.Sprintf("P12.1 Of(%d, true)", section), rank.Of(section, true), 0)
		is(t, fmt.Sprintf("P12.1 Of(%d, false)", section), rank.Of(section, false), 0)
	}
}

// The sections are those that a message's records come in.
func TestOfRecords(t *testing.T) {
	rr := func(typ int) api.RR {
		return api.RR{Name: "\x01a\x00", Type: typ, Class: api.IN, TTL: 60, Data: "\x01\x02\x03\x04"}
	}
	m := api.Message{Answers: []api.RR{rr(301)}, Servers: []api.RR{rr(302)}, Additional: []api.RR{rr(303)}}
	var with, without []int
	for section, r := range message.Records(m) {
		with = append(with, r.Type, rank.Of(section, true))
		without = append(without, r.Type, rank.Of(section, false))
	}
	is(t, "P12.1 Of a message's sections, with authority", with, []int{301, rank.Sure, 302, rank.Zone, 303, rank.Extra})
	is(t, "P12.1 Of a message's sections, without", without, []int{301, rank.Answer, 302, rank.Referral, 303, rank.Extra})
}

func TestBetter(t *testing.T) {
	most, least := math.MaxInt, math.MinInt
	for _, x := range []struct {
		now, elder int
		want       bool
	}{
		{rank.Answer, rank.Answer, true}, {rank.Zone, rank.Answer, true}, {rank.Referral, rank.Answer, false},
		{rank.Extra, rank.Extra, true}, {rank.Hint, rank.Hint, true}, {rank.Hint, rank.Sure, true}, {rank.Sure, rank.Hint, false},
		{rank.Sure, rank.Extra, true}, {rank.Extra, rank.Referral, false}, {rank.Zone, rank.Sure, false}, {rank.Sure, rank.Zone, true},
		{5, rank.Sure, true}, {5, 6, false}, {10, rank.Hint, true}, {-1, rank.Extra, false}, {-1, -1, true}, {-1, -2, true}, {-2, -1, false},
		{most, least, true}, {least, most, false}, {least, least, true}, {most, most, true}, {most, -1, true}, {-1, most, false}, {least, 1, false}, {1, least, true},
	} {
		is(t, fmt.Sprintf("P12.1 Better(%d, %d)", x.now, x.elder), rank.Better(x.now, x.elder), x.want)
	}
}

func TestServes(t *testing.T) {
	for _, r := range ends() {
		is(t, fmt.Sprintf("P12.1 Serves(%d)", r), rank.Serves(r), r == rank.Answer || r == rank.Zone || r == rank.Sure)
	}
}

// A client may be told what was asked for, and what a zone says of itself.
func TestServesOf(t *testing.T) {
	for _, x := range []struct {
		section       int
		with, without bool
	}{
		{0, true, true}, {1, true, false}, {2, false, false}, {3, false, false}, {-1, false, false},
	} {
		is(t, fmt.Sprintf("P12.1 Serves what is Of(%d, true)", x.section), rank.Serves(rank.Of(x.section, true)), x.with)
		is(t, fmt.Sprintf("P12.1 Serves what is Of(%d, false)", x.section), rank.Serves(rank.Of(x.section, false)), x.without)
	}
}

func TestBetterThanBetter(t *testing.T) {
	for _, a := range ends() {
		for _, b := range ends() {
			for _, c := range ends() {
				holds(t, a, b, c)
			}
		}
	}
	r := rand.New(rand.NewSource(12))
	for range 20000 {
		holds(t, int(r.Uint64())>>r.Intn(64), int(r.Uint64())>>r.Intn(64), int(r.Uint64())>>r.Intn(64))
	}
}

func FuzzRanks(f *testing.F) {
	for _, a := range ends() {
		f.Add(a, a+1, a-1)
	}
	f.Fuzz(func(t *testing.T, a, b, c int) {
		holds(t, a, b, c)
		is(t, fmt.Sprintf("P12.1 Serves(%d)", a), rank.Serves(a), a > 1 && a < 5)
		if a < 0 || a > 1 {
			is(t, fmt.Sprintf("P12.1 Of(%d)", a), []int{rank.Of(a, true), rank.Of(a, false)}, []int{0, 0})
		}
	})
}

// holds holds Better to what an order is: one of two is better than the other, both only if they are one, and what is better than what is better is better.
func holds(t *testing.T, a, b, c int) {
	t.Helper()
	if rank.Better(a, b) && rank.Better(b, c) && !rank.Better(a, c) {
		t.Errorf("P12.2 %d is better than %d, that than %d, but the first not than the last", a, b, c)
	}
	if rank.Better(a, b) == rank.Better(b, a) && a != b {
		t.Errorf("P12.1 %d and %d: Better does not tell which", a, b)
	}
	if a == b && !rank.Better(a, b) {
		t.Errorf("P12.1 %d may not take the place of its like", a)
	}
}
