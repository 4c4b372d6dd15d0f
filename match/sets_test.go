package match_test

import (
	"fmt"
	"math/rand"
	"slices"
	"strings"
	"testing"

	"freshet/api"
	"freshet/match"
)

// A set is what a walk over Sets is told at once.
type set struct {
	key api.Key
	rrs []api.RR
}

// walked is what a walk over Sets is told, up to most of them.
func walked(walk func(yield func(api.Key, []api.RR) bool), most int) []set {
	l := []set{}
	for k, rrs := range walk {
		if l = append(l, set{k, rrs}); len(l) == most {
			break
		}
	}
	return l
}

// sets is what Sets tells of a list, and that it left it as it was.
func sets(t *testing.T, what string, l []api.RR) []set {
	t.Helper()
	list, all := roomy(l, address("room", 1, 9))
	was := slices.Clone(all)
	got := walked(match.Sets(list), -1)
	is(t, "P5.3 what was handed in: "+what, all, was)
	return got
}

// grouped is what Sets should tell, of names and data that may be: of each record all behind it are asked.
func grouped(l []api.RR) []set {
	told := []set{}
	has := func(key api.Key) bool {
		return slices.ContainsFunc(told, func(s set) bool { return s.key == key })
	}
	for _, first := range l {
		key := api.Key{Name: small(first.Name), Type: first.Type}
		if first.Class != 1 || has(key) {
			continue
		}
		s := set{key: key}
		for _, r := range l {
			twice := slices.ContainsFunc(s.rrs, func(x api.RR) bool { return alike(x, r) })
			if r.Class == 1 && r.Type == first.Type && small(r.Name) == key.Name && !twice {
				s.rrs = append(s.rrs, r)
			}
		}
		told = append(told, s)
	}
	return told
}

// record is a record of class IN.
func record(owner string, kind, ttl int, data string) api.RR {
	return api.RR{Name: wire(owner), Type: kind, Class: 1, TTL: ttl, Data: data}
}

func TestSets(t *testing.T) {
	ns := record("A", api.NS, 5, wire("ns A"))
	one, two, three := record("b a", api.A, 1, "abcd"), record("B a", api.A, 2, "ABCD"), record("b A", api.A, 3, "abcd")
	txt := record("a", api.TXT, 6, "\x01a")
	for what, c := range map[string]struct {
		l    []api.RR
		want []set
	}{
		"none":       {nil, []set{}},
		"none there": {[]api.RR{}, []set{}},
		"one":        {[]api.RR{ns}, []set{{api.Key{Name: wire("a"), Type: api.NS}, []api.RR{ns}}}},
		"by name":    {[]api.RR{one, record("c a", api.A, 1, "abcd"), two}, []set{{api.Key{Name: wire("b a"), Type: api.A}, []api.RR{one, two}}, {api.Key{Name: wire("c a"), Type: api.A}, []api.RR{record("c a", api.A, 1, "abcd")}}}},
		"by type":    {[]api.RR{txt, ns}, []set{{api.Key{Name: wire("a"), Type: api.TXT}, []api.RR{txt}}, {api.Key{Name: wire("a"), Type: api.NS}, []api.RR{ns}}}},
		"twice":      {[]api.RR{three, two, one, two, three}, []set{{api.Key{Name: wire("b a"), Type: api.A}, []api.RR{three, two}}}},
		"one ahead":  {[]api.RR{one, ns, two, txt, three}, []set{{api.Key{Name: wire("b a"), Type: api.A}, []api.RR{one, two}}, {api.Key{Name: wire("a"), Type: api.NS}, []api.RR{ns}}, {api.Key{Name: wire("a"), Type: api.TXT}, []api.RR{txt}}}},
		"Root":       {[]api.RR{record("", api.NS, 0, wire("X")), record("", api.NS, 0, wire("y"))}, []set{{api.Key{Name: "\x00", Type: api.NS}, []api.RR{record("", api.NS, 0, wire("X")), record("", api.NS, 0, wire("y"))}}}},
	} {
		is(t, "P5.2 Sets: "+what, sets(t, what, c.l), c.want)
	}
}

// TestSetsOrder holds that neither names nor types nor addresses have a say in the order: each order is told as it comes.
func TestSetsOrder(t *testing.T) {
	owners := []string{"", "a", "b", "a b", "b a", "c"}
	for seed := range int64(200) {
		r := rand.New(rand.NewSource(seed))
		l := []api.RR{}
		for i := range r.Perm(len(owners) * 3) {
			l = append(l, record(owners[i%len(owners)], []int{api.A, api.NS, 99}[i/len(owners)], i, ""))
		}
		r.Shuffle(len(l), func(i, k int) { l[i], l[k] = l[k], l[i] })
		for i, s := range sets(t, "order", l) {
			is(t, "P5.2 Sets, in order", s, set{api.Key{Name: l[i].Name, Type: l[i].Type}, l[i : i+1]})
		}
	}
}

func TestSetsClass(t *testing.T) {
	in := record("a", api.A, 1, "abcd")
	for _, class := range []int{0, 2, 3, 4, 254, 255, 65535, 65537, -1, 1<<32 + 1} {
		other := in
		other.Class = class
		what := fmt.Sprintf("Class %d", class)
		is(t, "P5.2 Sets of "+what, sets(t, what, []api.RR{other, other}), []set{})
		want := []set{{api.Key{Name: wire("a"), Type: api.A}, []api.RR{in}}}
		is(t, "P5.2 Sets, and ahead "+what, sets(t, what, []api.RR{other, in}), want)
		is(t, "P5.2 Sets, and behind "+what, sets(t, what, []api.RR{in, other}), want)
	}
	// A record that is left out has no say in the order.
	other := record("a", api.A, 1, "abcd")
	other.Class = 3
	b := record("b", api.A, 1, "abcd")
	is(t, "P5.2 Sets' order", sets(t, "order", []api.RR{other, b, in})[0].key.Name, wire("b"))
}

func TestSetsTwice(t *testing.T) {
	twice := func(what string, a, b api.RR) {
		t.Helper()
		key := api.Key{Name: small(a.Name), Type: a.Type}
		is(t, "P5.2 twice: "+what, sets(t, what, []api.RR{a, b, a}), []set{{key, []api.RR{a}}})
		is(t, "P5.2 twice, the other way round: "+what, sets(t, what, []api.RR{b, a, b}), []set{{key, []api.RR{b}}})
	}
	once := func(what string, a, b api.RR) {
		t.Helper()
		key := api.Key{Name: small(a.Name), Type: a.Type}
		is(t, "P5.2 once each: "+what, sets(t, what, []api.RR{a, b, a, b}), []set{{key, []api.RR{a, b}}})
	}
	times := "ABCDEFGHIJKLMNOPQRST"
	twice("another TTL", record("a", api.A, 1, "abcd"), record("a", api.A, 2, "abcd"))
	twice("a name in other letters", record("a B", api.A, 1, "abcd"), record("A b", api.A, 1, "abcd"))
	twice("NS in other letters", record("a", api.NS, 1, wire("Ns A")), record("a", api.NS, 1, wire("nS a")))
	twice("CNAME in other letters", record("a", api.CNAME, 1, wire("b")), record("a", api.CNAME, 1, wire("B")))
	twice("PTR in other letters", record("a", api.PTR, 1, wire("b")), record("a", api.PTR, 1, wire("B")))
	twice("MX in other letters", record("a", api.MX, 1, "ab"+wire("b")), record("a", api.MX, 1, "ab"+wire("B")))
	twice("SRV in other letters", record("a", api.SRV, 1, "abcdef"+wire("b")), record("a", api.SRV, 1, "abcdef"+wire("B")))
	twice("SOA in other letters", record("a", api.SOA, 1, wire("b")+wire("C")+times), record("a", api.SOA, 1, wire("B")+wire("c")+times))
	twice("no data", record("a", 99, 1, ""), record("a", 99, 2, ""))
	once("A in other letters", record("a", api.A, 1, "abcd"), record("a", api.A, 1, "ABCD"))
	once("TXT in other letters", record("a", api.TXT, 1, "\x01a"), record("a", api.TXT, 1, "\x01A"))
	once("MX, ahead of its name", record("a", api.MX, 1, "ab"+wire("b")), record("a", api.MX, 1, "AB"+wire("b")))
	once("SOA, behind its names", record("a", api.SOA, 1, wire("b")+wire("c")+times), record("a", api.SOA, 1, wire("b")+wire("c")+small(times)))
	once("a type that is not known", record("a", 99, 1, wire("b")), record("a", 99, 1, wire("B")))
	once("data that may not be", record("a", api.NS, 1, "b"), record("a", api.NS, 1, "B"))
	once("more data", record("a", 99, 1, "b"), record("a", 99, 1, "bb"))
	// Each set has its own: what is alike but for the name or the type is told in each.
	l := []api.RR{record("a", 99, 1, "x"), record("b", 99, 1, "x"), record("a", 98, 1, "x")}
	is(t, "P5.2 alike in other sets", len(sets(t, "alike", l)), 3)
}

// TestSetsWrong holds that nothing is asked of a record but its Class: what may not be one is told, too.
func TestSetsWrong(t *testing.T) {
	for _, n := range wrong() {
		l := []api.RR{{Name: n, Type: -1, Class: 1, TTL: -1, Data: n}, {Name: n, Type: api.OPT, Class: 1, TTL: 1 << 40, Data: strings.Repeat("x", 2000)}}
		want := []set{{api.Key{Name: n, Type: -1}, l[:1]}, {api.Key{Name: n, Type: api.OPT}, l[1:]}}
		is(t, fmt.Sprintf("P5.2 Sets of %.30q", n), sets(t, "wrong", slices.Concat(l, l)), want)
	}
	// To fold is of names: what is none stays as it is.
	upper, lower := api.RR{Name: "\x01A", Class: 1}, api.RR{Name: "\x01a", Class: 1}
	is(t, "P5.2 Sets of what is no name", sets(t, "wrong", []api.RR{upper, lower}), []set{{api.Key{Name: "\x01A"}, []api.RR{upper}}, {api.Key{Name: "\x01a"}, []api.RR{lower}}})
}

func TestSetsWalk(t *testing.T) {
	l := []api.RR{record("a", 99, 1, ""), record("b", 99, 2, "x"), record("b", 99, 3, "y"), record("c", 99, 4, ""), record("a", 98, 5, "")}
	all := grouped(l)
	for most := 1; most <= 4; most++ {
		is(t, fmt.Sprintf("P5.2 a walk of %d", most), walked(match.Sets(l), most), all[:most])
	}
	asked := 0
	match.Sets(l)(func(api.Key, []api.RR) bool {
		asked++
		return asked < 2
	})
	is(t, "P5.2 a walk that is stopped", asked, 2)
	walk := match.Sets(l)
	for range 3 {
		var got []set
		for k, rrs := range walk {
			is(t, "P5.2 a walk within a walk", walked(walk, 2), all[:2])
			got = append(got, set{k, rrs})
		}
		is(t, "P5.2 walked more than once", got, all)
	}
}

func TestSetsMemory(t *testing.T) {
	l := []api.RR{record("A", 99, 1, "x"), record("a", 99, 2, "y"), record("b", 98, 3, "z")}
	want := grouped(l)
	walk := match.Sets(l)
	l[0], l[1].TTL, l[2].Class = api.RR{}, 77, 3
	is(t, "P5.3 Sets of what was handed in, and changed since", walked(walk, -1), want)
	for _, rrs := range walk {
		rrs[0].TTL = 78
		rrs = append(rrs, api.RR{TTL: 79})
		rrs[len(rrs)-1].Name = "x"
	}
	is(t, "P5.3 Sets, and what was told changed", walked(walk, -1), want)
	was := []api.RR{record("a", 99, 1, "x"), record("B", 99, 2, "y")}
	for k, rrs := range match.Sets(was) {
		if sharesRecords(rrs, was) || shares(k.Name, was[0].Name) || shares(k.Name, rrs[0].Name) {
			t.Error("P5.3 Sets tells what was handed in")
		}
	}
}

func TestSetsByChance(t *testing.T) {
	r := rand.New(rand.NewSource(11))
	dropped := 0
	for range 4000 {
		var l []api.RR
		for range r.Intn(24) {
			l = append(l, someRecord(r))
		}
		// Some come once more, in other letters or not.
		for range r.Intn(4) {
			if len(l) > 0 {
				x := l[r.Intn(len(l))]
				x.Name = strings.ToUpper(x.Name)
				l = slices.Insert(l, r.Intn(len(l)+1), x)
			}
		}
		got, want := sets(t, "by chance", l), grouped(l)
		is(t, "P5.2 by chance", got, want)
		dropped += len(l)
		for _, s := range want {
			dropped -= len(s.rrs)
		}
		if t.Failed() {
			return
		}
	}
	if dropped < 1000 {
		t.Errorf("P5.2 by chance: only %d records are left out", dropped)
	}
}

// TestSetsOfMany holds that a list of many is done in no time: nobody waits for each being held against each.
func TestSetsOfMany(t *testing.T) {
	const many = 100000
	var l []api.RR
	for i := range many {
		l = append(l, record("a", 99, i, fmt.Sprint(i)), record(fmt.Sprint(i), 99, i, ""))
	}
	got := walked(match.Sets(append(l, l...)), -1)
	is(t, "P5.2 Sets of many", []int{len(got), len(got[0].rrs), len(got[many].rrs)}, []int{many + 1, many, 1})
}
