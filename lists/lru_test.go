package lists_test

import (
	"fmt"
	"math"
	"testing"

	"freshet/lists"
)

func TestNewLRU(t *testing.T) {
	for _, most := range []int{0, 1, 2, 100, math.MaxInt, -1, -100, math.MinInt} {
		l := lists.NewLRU[string](most)
		what := fmt.Sprintf("P9.1 NewLRU(%d)", most)
		stands(t, what, l, "", "")
		touches(t, l, "ab", false)
		drops(t, l, "ab", false)
		stands(t, what, l, "", "")
	}
}

func TestAdd(t *testing.T) {
	l := lists.NewLRU[string](2)
	for i, k := range letters("dbca") {
		l.Add(k)
		stands(t, "P9.1 Add", l, "dbca"[:i+1], "")
	}
	// Whoever is there stays where it is, of whichever part.
	for _, k := range letters("dabcd") {
		l.Add(k)
		stands(t, "P9.1 Add of one that is there", l, "dbca", "")
	}
	touches(t, l, "bd", true)
	for _, k := range letters("bdacb") {
		l.Add(k)
		stands(t, "P9.1 Add of one that is there", l, "ca", "bd")
	}
	l.Add("e")
	stands(t, "P9.1 Add beside protected ones", l, "cae", "bd")
	// One that went and comes is a new one.
	drops(t, l, "b", true)
	l.Add("b")
	stands(t, "P9.1 Add of one that was dropped", l, "caeb", "d")
	l.Add("")
	l.Add("")
	is(t, "P9.1 Add of an empty key", ordered(l.Order(), -1), []string{"c", "a", "e", "b", "", "d"})
	is(t, "P9.1 Touch of an empty key", l.Touch(""), true)
	is(t, "P9.1 Touch of an empty key", ordered(l.Order(), -1), []string{"c", "a", "e", "b", "d", ""})
	is(t, "P9.1 Drop of an empty key", []bool{l.Drop(""), l.Drop("")}, []bool{true, false})
	stands(t, "P9.1 behind the empty key", l, "caeb", "d")
}

func TestTouch(t *testing.T) {
	for _, c := range []struct {
		most              int
		touched           string
		probation, behind string
	}{
		// Of probation: the newest protected one.
		{9, "a", "bcd", "a"}, {9, "b", "acd", "b"}, {9, "d", "abc", "d"},
		{9, "ca", "bd", "ca"}, {9, "abcd", "", "abcd"}, {9, "dcba", "", "dcba"},
		// Of protected: the newest of these.
		{9, "aa", "bcd", "a"}, {9, "aba", "cd", "ba"}, {9, "abca", "d", "bca"}, {9, "abcb", "d", "acb"}, {9, "abcc", "d", "abc"},
		{9, "abcdabcd", "", "abcd"}, {9, "abcddcba", "", "dcba"},
		// More than most: the oldest of protected is the newest of probation.
		{1, "a", "bcd", "a"}, {1, "ab", "cda", "b"}, {1, "aba", "cdb", "a"}, {1, "abb", "cda", "b"}, {1, "abcd", "abc", "d"}, {1, "dcba", "dcb", "a"},
		{2, "abc", "da", "bc"}, {2, "abac", "db", "ac"}, {2, "abcd", "ab", "cd"}, {2, "abcabc", "da", "bc"}, {2, "abcda", "bc", "da"},
		{3, "abcd", "a", "bcd"}, {3, "abca", "d", "bca"}, {3, "abcda", "b", "cda"}, {4, "abcd", "", "abcd"}, {4, "abcdc", "", "abdc"},
		{math.MaxInt, "abcd", "", "abcd"}, {math.MaxInt, "bd", "ac", "bd"},
		// None may be protected: each becomes the newest of probation.
		{0, "a", "bcda", ""}, {0, "d", "abcd", ""}, {0, "ab", "cdab", ""}, {0, "bb", "acdb", ""}, {0, "dcba", "dcba", ""},
		{-1, "a", "bcda", ""}, {-1, "ca", "bdca", ""}, {-7, "bad", "cbad", ""}, {math.MinInt, "ca", "bdca", ""},
	} {
		l := lru(c.most, "abcd", "")
		what := fmt.Sprintf("P9.1 Touch of %s, of %d protected", c.touched, c.most)
		touches(t, l, c.touched, true)
		stands(t, what, l, c.probation, c.behind)
		touches(t, l, "xyz", false)
		stands(t, what+", and of others", l, c.probation, c.behind)
	}
}

func TestLRUDrop(t *testing.T) {
	for _, c := range []struct{ dropped, probation, protected string }{
		{"a", "bc", "xyz"}, {"b", "ac", "xyz"}, {"c", "ab", "xyz"}, {"x", "abc", "yz"}, {"y", "abc", "xz"}, {"z", "abc", "xy"},
		{"abc", "", "xyz"}, {"zyx", "abc", ""}, {"cx", "ab", "yz"}, {"abcxyz", "", ""}, {"zyxcba", "", ""}, {"byaz", "c", "x"},
	} {
		l := lru(3, "abc", "xyz")
		stands(t, "P9.1 all", l, "abc", "xyz")
		what := "P9.1 Drop of " + c.dropped
		drops(t, l, c.dropped, true)
		stands(t, what, l, c.probation, c.protected)
		drops(t, l, c.dropped, false)
		touches(t, l, c.dropped, false)
		stands(t, what+", once more", l, c.probation, c.protected)
		// Whoever comes then is the newest, and there is room among protected.
		l.Add("n")
		l.Add("m")
		stands(t, what+", and two new ones", l, c.probation+"nm", c.protected)
		for _, k := range letters(c.probation + c.protected) {
			l.Touch(k)
		}
		touches(t, l, "n", true)
		p, q := l.Len()
		is(t, what+", and all Touched: Len", []int{p, q}, []int{len(c.probation+c.protected) + 2 - min(3, len(c.probation+c.protected)+1), min(3, len(c.probation+c.protected)+1)})
	}
}

// Who is dropped while there are more than most may be is not made up for.
func TestDropOfProtected(t *testing.T) {
	l := lru(2, "ab", "cd")
	drops(t, l, "c", true)
	stands(t, "P9.1 Drop of one of the protected", l, "ab", "d")
	touches(t, l, "b", true)
	stands(t, "P9.1 Touch into the room that is left", l, "a", "db")
	touches(t, l, "a", true)
	stands(t, "P9.1 Touch beyond it", l, "d", "ba")
}

func TestOrder(t *testing.T) {
	l := lru(3, "abc", "xyz")
	walk := l.Order()
	for range 2 {
		is(t, "P9.1 Order, walked more than once", ordered(walk, -1), letters("abcxyz"))
		for most := range 7 {
			is(t, fmt.Sprintf("P9.1 Order, stopped behind %d", most), ordered(walk, most), letters("abcxyz"[:most]))
		}
	}
	// A walk begins when it is walked.
	l.Add("d")
	l.Touch("b")
	drops(t, l, "y", true)
	is(t, "P9.1 Order, walked later", ordered(walk, -1), letters("acdxzb"))
	// A walk within a walk, both to the end.
	got := []string{}
	for k := range walk {
		got = append(got, k)
		is(t, "P9.1 Order within Order", ordered(walk, -1), ordered(l.Order(), -1))
		is(t, "P9.1 Order within Order, stopped", ordered(walk, 2), []string{"a", "c"})
	}
	is(t, "P9.1 Order around Orders", got, letters("acdxzb"))
	stands(t, "P9.1 walking changes nothing", l, "acdx", "zb")
}

// What is walked is what was there when the walk began.
func TestOrderWhileItChanges(t *testing.T) {
	for what, change := range map[string]func(l *lists.LRU[string], k string){
		"Drop of each that is told":     func(l *lists.LRU[string], k string) { l.Drop(k) },
		"Drop of all":                   func(l *lists.LRU[string], k string) { dropAll(l) },
		"Drop of the next":              func(l *lists.LRU[string], k string) { l.Drop(string(k[0] + 1)) },
		"Touch of each that is told":    func(l *lists.LRU[string], k string) { l.Touch(k) },
		"Touch of one":                  func(l *lists.LRU[string], k string) { l.Touch("b") },
		"Touch of the last":             func(l *lists.LRU[string], k string) { l.Touch("y"); l.Touch("z") },
		"Add of new ones":               func(l *lists.LRU[string], k string) { l.Add(k + k) },
		"Add of one once more":          func(l *lists.LRU[string], k string) { l.Drop("c"); l.Add("c"); l.Drop("x"); l.Add("x") },
		"others' coming into its place": func(l *lists.LRU[string], k string) { dropAll(l); l.Add("v"); l.Add("w"); l.Touch("v") },
		"a walk that is stopped": func(l *lists.LRU[string], k string) {
			for range l.Order() {
				l.Drop("b")
				break
			}
		},
	} {
		for from := range 6 {
			l := lru(3, "abc", "xyz")
			got := []string{}
			for k := range l.Order() {
				got = append(got, k)
				if len(got) > from { // the first steps go on as they are
					change(l, k)
				}
			}
			is(t, fmt.Sprintf("P9.1 Order, and behind %d steps %s", from, what), got, letters("abcxyz"))
		}
	}
}

func dropAll(l *lists.LRU[string]) {
	for _, k := range letters("abcxyz") {
		l.Drop(k)
	}
}

// Walks within walks, each of which tells what was there when it began.
func TestOrderWithinChanges(t *testing.T) {
	l := lru(2, "abc", "xy")
	outer, inner := []string{}, []string{}
	for k := range l.Order() {
		outer = append(outer, k)
		for in := range l.Order() {
			inner = append(inner, in)
			l.Drop(in)
			l.Add(in + "'")
			if len(inner)%3 == 0 {
				break
			}
		}
	}
	is(t, "P9.1 the walk around", outer, letters("abcxy"))
	is(t, "P9.1 the walks within", inner, []string{"a", "b", "c", "a'", "b'", "c'", "a''", "b''", "c''", "a'''", "b'''", "c'''", "a''''", "b''''", "c''''"})
	is(t, "P9.1 behind all", ordered(l.Order(), -1), []string{"a'''''", "b'''''", "c'''''", "x", "y"})
}

// A walk that a panic or a stop ended is over: what comes then is not its own.
func TestOrderLeft(t *testing.T) {
	l := lru(2, "abc", "xy")
	func() {
		defer func() { is(t, "what the body of a loop does is its own", recover(), any("left")) }()
		for range l.Order() {
			panic("left")
		}
	}()
	drops(t, l, "b", true)
	touches(t, l, "a", true)
	stands(t, "P9.1 behind a walk that was left", l, "cx", "ya")
	is(t, "P9.1 behind a walk that was left", ordered(l.Order(), 2), letters("cx"))
}

func TestLRUNil(t *testing.T) {
	var l *lists.LRU[string]
	for range 2 {
		stands(t, "P9.3 a nil one", l, "", "")
		is(t, "P9.3 a nil one", []bool{l.Touch("a"), l.Drop("a")}, []bool{false, false})
		l.Add("a")
	}
	// One that NewLRU didn't make has nobody, either.
	for range 2 {
		l = &lists.LRU[string]{}
		l.Add("a")
		stands(t, "P9.3 one that is nothing", l, "", "")
		is(t, "P9.3 one that is nothing", []bool{l.Touch("a"), l.Drop("a")}, []bool{false, false})
	}
}

// Two of them have nothing in common.
func TestLRUApart(t *testing.T) {
	one, two := lru(1, "ab", "c"), lru(1, "xa", "b")
	got := []string{}
	for k := range one.Order() {
		got = append(got, k)
		two.Touch(k)
		two.Drop("x")
	}
	is(t, "P9.1 Order of one, changes of another", got, letters("abc"))
	stands(t, "P9.1 the one", one, "ab", "c")
	stands(t, "P9.1 the other", two, "a", "b")
}
