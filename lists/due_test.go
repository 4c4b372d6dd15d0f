package lists_test

import (
	"fmt"
	"math"
	"testing"

	"freshet/lists"
)

func TestNewDue(t *testing.T) {
	d := lists.NewDue[string]()
	by(t, "P9.2 none", d)
	drops(t, d, "ab", false)
	at, ok := d.At("a")
	is(t, "P9.2 At of none", []any{at, ok}, []any{0, false})
	for _, at := range []int{0, -1, 1, math.MinInt, math.MaxInt} {
		is(t, fmt.Sprintf("P9.2 Upto(%d) of none", at), told(d.Upto(at), -1), []timed{})
	}
	by(t, "P9.2 none", d)
}

func TestSet(t *testing.T) {
	d := lists.NewDue[string]()
	d.Set("a", 5)
	by(t, "P9.2 one", d, timed{"a", 5})
	d.Set("b", 3)
	by(t, "P9.2 one ahead", d, timed{"b", 3}, timed{"a", 5})
	d.Set("c", 9)
	by(t, "P9.2 one behind", d, timed{"b", 3}, timed{"a", 5}, timed{"c", 9})
	d.Set("d", 5)
	d.Set("e", 5)
	by(t, "P9.2 of one time in their order", d, timed{"b", 3}, timed{"a", 5}, timed{"d", 5}, timed{"e", 5}, timed{"c", 9})
	// Again: behind all others of that time, be it the same one or another.
	d.Set("a", 5)
	by(t, "P9.2 again", d, timed{"b", 3}, timed{"d", 5}, timed{"e", 5}, timed{"a", 5}, timed{"c", 9})
	d.Set("e", 5)
	d.Set("e", 5)
	by(t, "P9.2 again", d, timed{"b", 3}, timed{"d", 5}, timed{"a", 5}, timed{"e", 5}, timed{"c", 9})
	d.Set("d", 9)
	by(t, "P9.2 at another time", d, timed{"b", 3}, timed{"a", 5}, timed{"e", 5}, timed{"c", 9}, timed{"d", 9})
	d.Set("c", 3)
	by(t, "P9.2 at another time", d, timed{"b", 3}, timed{"c", 3}, timed{"a", 5}, timed{"e", 5}, timed{"d", 9})
	d.Set("b", 100)
	d.Set("b", 5)
	by(t, "P9.2 there and back", d, timed{"c", 3}, timed{"a", 5}, timed{"e", 5}, timed{"b", 5}, timed{"d", 9})
	d.Set("a", -5)
	d.Set("d", -5)
	by(t, "P9.2 below 0", d, timed{"a", -5}, timed{"d", -5}, timed{"c", 3}, timed{"e", 5}, timed{"b", 5})
}

func TestSetFar(t *testing.T) {
	d := due(timed{"max", math.MaxInt}, timed{"min", math.MinInt}, timed{"0", 0}, timed{"more", math.MinInt + 1}, timed{"less", math.MaxInt - 1}, timed{"-1", -1}, timed{"", 1 << 32}, timed{"2", 2}, timed{"max too", math.MaxInt})
	all := []timed{{"min", math.MinInt}, {"more", math.MinInt + 1}, {"-1", -1}, {"0", 0}, {"2", 2}, {"", 1 << 32}, {"less", math.MaxInt - 1}, {"max", math.MaxInt}, {"max too", math.MaxInt}}
	by(t, "P9.2 far times", d, all...)
	for at, count := range map[int]int{math.MinInt: 1, math.MinInt + 1: 2, -2: 2, -1: 3, 0: 4, 1: 4, 2: 5, 1<<32 - 1: 5, 1 << 32: 6, math.MaxInt - 2: 6, math.MaxInt - 1: 7, math.MaxInt: 9} {
		is(t, fmt.Sprintf("P9.2 Upto(%d)", at), told(d.Upto(at), -1), all[:count])
	}
}

func TestDueDrop(t *testing.T) {
	all := []timed{{"a", 1}, {"b", 1}, {"c", 2}, {"d", 2}, {"e", 2}, {"f", 7}, {"g", 9}}
	for i, x := range all {
		for j, y := range all {
			d := due(all...)
			left := []timed{}
			for _, z := range all {
				if z != x && z != y {
					left = append(left, z)
				}
			}
			is(t, "P9.2 Drop of one", []bool{d.Drop(x.key), d.Drop(x.key), d.Drop(y.key), d.Drop(y.key)}, []bool{true, false, i != j, false})
			at, ok := d.At(x.key)
			is(t, "P9.2 At of one that was dropped", []any{at, ok}, []any{0, false})
			by(t, fmt.Sprintf("P9.2 without %s and %s", x.key, y.key), d, left...)
			// One that went and comes is behind all others of its time.
			d.Set(x.key, 2)
			want := []timed{}
			for _, z := range left {
				if z.at <= 2 {
					want = append(want, z)
				}
			}
			is(t, "P9.2 Set of one that was dropped", told(d.Upto(2), -1), append(want, timed{x.key, 2}))
			is(t, "P9.2 Set of one that was dropped: Len", d.Len(), len(left)+1)
		}
	}
}

func TestUpto(t *testing.T) {
	all := []timed{{"d", -1}, {"b", 3}, {"a", 5}, {"c", 5}, {"f", 5}, {"e", 9}}
	d := due(timed{"a", 5}, timed{"b", 3}, timed{"c", 5}, timed{"d", -1}, timed{"e", 9}, timed{"f", 5})
	for at, count := range map[int]int{-2: 0, -1: 1, 0: 1, 2: 1, 3: 2, 4: 2, 5: 5, 6: 5, 8: 5, 9: 6, 10: 6, math.MinInt: 0, math.MaxInt: 6} {
		walk := d.Upto(at)
		for range 2 {
			is(t, fmt.Sprintf("P9.2 Upto(%d), walked more than once", at), told(walk, -1), all[:count])
			for most := 1; most <= count; most++ {
				is(t, fmt.Sprintf("P9.2 Upto(%d), stopped behind %d", at, most), told(walk, most), all[:most])
			}
		}
	}
	// A walk begins when it is walked.
	walk := d.Upto(5)
	d.Set("b", 6)
	d.Set("g", 0)
	drops(t, d, "c", true)
	is(t, "P9.2 Upto, walked later", told(walk, -1), []timed{{"d", -1}, {"g", 0}, {"a", 5}, {"f", 5}})
	for k, at := range walk {
		is(t, "P9.2 Upto within Upto: of "+k, told(d.Upto(at), 1), []timed{{"d", -1}})
		is(t, "P9.2 Upto within Upto: of "+k, told(walk, 3), []timed{{"d", -1}, {"g", 0}, {"a", 5}})
	}
	by(t, "P9.2 walking changes nothing", d, timed{"d", -1}, timed{"g", 0}, timed{"a", 5}, timed{"f", 5}, timed{"b", 6}, timed{"e", 9})
}

// What is walked is what was there when the walk began, at the times of then.
func TestUptoWhileItChanges(t *testing.T) {
	all := []timed{{"a", 1}, {"b", 1}, {"c", 2}, {"d", 3}, {"e", 3}, {"f", 3}, {"g", 7}, {"h", 8}, {"i", 8}}
	for what, change := range map[string]func(d *lists.Due[string], k string){
		"Drop of each that is told":     func(d *lists.Due[string], k string) { d.Drop(k) },
		"Drop of the next":              func(d *lists.Due[string], k string) { d.Drop(string(k[0] + 1)) },
		"Drop of all":                   func(d *lists.Due[string], k string) { dropTimed(d, all) },
		"Set of each that is told":      func(d *lists.Due[string], k string) { d.Set(k, 3) },
		"Set of each to a later time":   func(d *lists.Due[string], k string) { d.Set(k, 7) },
		"Set of the last to be first":   func(d *lists.Due[string], k string) { d.Set("i", 0) },
		"Set of the next to be behind":  func(d *lists.Due[string], k string) { d.Set(string(k[0]+1), 1000) },
		"Set of new ones":               func(d *lists.Due[string], k string) { d.Set(k+k, 3); d.Set(k+"'", -3) },
		"others' coming into its place": func(d *lists.Due[string], k string) { dropTimed(d, all); d.Set("x", 2); d.Set("y", 3) },
		"a walk that is stopped": func(d *lists.Due[string], k string) {
			for k := range d.Upto(3) {
				d.Drop(k)
				break
			}
		},
	} {
		for from := range all {
			for _, most := range []int{3, 7, 100} {
				d := due(all...)
				want := told(d.Upto(most), -1)
				got := []timed{}
				for k, at := range d.Upto(most) {
					got = append(got, timed{k, at})
					if len(got) > from { // the first steps go on as they are
						change(d, k)
					}
				}
				is(t, fmt.Sprintf("P9.2 Upto(%d), and behind %d steps %s", most, from, what), got, want)
			}
		}
	}
}

func dropTimed(d *lists.Due[string], l []timed) {
	for _, x := range l {
		d.Drop(x.key)
	}
}

// A walk that a panic or a stop ended is over: what comes then is not its own.
func TestUptoLeft(t *testing.T) {
	d := due(timed{"a", 1}, timed{"b", 2}, timed{"c", 3})
	func() {
		defer func() { is(t, "what the body of a loop does is its own", recover(), any("left")) }()
		for range d.Upto(9) {
			panic("left")
		}
	}()
	d.Set("a", 5)
	is(t, "P9.2 behind a walk that was left", told(d.Upto(9), 2), []timed{{"b", 2}, {"c", 3}})
	drops(t, d, "b", true)
	by(t, "P9.2 behind walks that were left", d, timed{"c", 3}, timed{"a", 5})
}

func TestDueNil(t *testing.T) {
	var d *lists.Due[string]
	for range 2 {
		by(t, "P9.3 a nil one", d)
		at, ok := d.At("a")
		is(t, "P9.3 a nil one", []any{at, ok, d.Drop("a")}, []any{0, false, false})
		d.Set("a", 1)
	}
	// One that NewDue didn't make has nobody, either.
	for range 2 {
		d = &lists.Due[string]{}
		d.Set("a", 1)
		by(t, "P9.3 one that is nothing", d)
		at, ok := d.At("a")
		is(t, "P9.3 one that is nothing", []any{at, ok, d.Drop("a")}, []any{0, false, false})
	}
}

// Two of them have nothing in common.
func TestDueApart(t *testing.T) {
	one, two := due(timed{"a", 1}, timed{"b", 2}), due(timed{"b", 1}, timed{"a", 2})
	got := []timed{}
	for k, at := range one.Upto(2) {
		got = append(got, timed{k, at})
		two.Set(k, 7)
		two.Drop("b")
	}
	is(t, "P9.2 Upto of one, changes of another", got, []timed{{"a", 1}, {"b", 2}})
	by(t, "P9.2 the one", one, timed{"a", 1}, timed{"b", 2})
	by(t, "P9.2 the other", two, timed{"a", 7})
}
