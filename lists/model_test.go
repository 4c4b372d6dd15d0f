package lists_test

import (
	"fmt"
	"math"
	"math/rand"
	"slices"
	"testing"

	"freshet/lists"
)

// An old one is an LRU, told once more.
type old struct {
	most                 int
	probation, protected []int
}

// without is a list without a key, and whether it was there; in new memory.
func without(l []int, k int) ([]int, bool) {
	at := slices.Index(l, k)
	if at < 0 {
		return l, false
	}
	return slices.Concat(l[:at], l[at+1:]), true
}

func (o *old) order() []int { return slices.Concat(o.probation, o.protected) }

func (o *old) add(k int) {
	if !slices.Contains(o.order(), k) {
		o.probation = append(o.probation, k)
	}
}

func (o *old) drop(k int) bool {
	var a, b bool
	o.probation, a = without(o.probation, k)
	o.protected, b = without(o.protected, k)
	return a || b
}

func (o *old) touch(k int) bool {
	if !o.drop(k) {
		return false
	}
	o.protected = append(o.protected, k)
	if len(o.protected) > max(o.most, 0) {
		o.probation = append(o.probation, o.protected[0])
		o.protected = o.protected[1:]
	}
	return true
}

// A chosen is an LRU and its model, to which the same is done.
type chosen struct {
	t *testing.T
	l *lists.LRU[int]
	o old
}

func chose(t *testing.T, most int) *chosen {
	return &chosen{t, lists.NewLRU[int](most), old{most: most}}
}

// step does one thing more, as numbers say.
func (c *chosen) step(what, k int) {
	c.t.Helper()
	switch what % 8 {
	case 0, 1, 2:
		c.l.Add(k)
		c.o.add(k)
	case 3, 4, 5:
		is(c.t, fmt.Sprintf("P9.1 Touch(%d)", k), c.l.Touch(k), c.o.touch(k))
	case 6:
		is(c.t, fmt.Sprintf("P9.1 Drop(%d)", k), c.l.Drop(k), c.o.drop(k))
	case 7: // who would go first goes
		for first := range c.l.Order() {
			is(c.t, "P9.1 who goes first", first, c.o.order()[0])
			is(c.t, "P9.1 Drop of who goes first", c.l.Drop(first), c.o.drop(first))
			break
		}
	}
}

// walk walks along, and does more between its steps.
func (c *chosen) walk(more func(step int)) {
	c.t.Helper()
	want, got := c.o.order(), []int{}
	for k := range c.l.Order() {
		got = append(got, k)
		more(len(got))
	}
	if !slices.Equal(got, want) {
		c.t.Fatalf("P9.1 Order, with changes between:\n got %v\nwant %v", got, want)
	}
}

func (c *chosen) alike() {
	c.t.Helper()
	if got, want := ordered(c.l.Order(), -1), c.o.order(); !slices.Equal(got, want) {
		c.t.Fatalf("P9.1 Order:\n got %v\nwant %v", got, want)
	}
	p, q := c.l.Len()
	is(c.t, "P9.1 Len", []int{p, q}, []int{len(c.o.probation), len(c.o.protected)})
	if c.t.Failed() {
		c.t.FailNow()
	}
}

func TestLRUByChance(t *testing.T) {
	for seed := range 200 {
		r := rand.New(rand.NewSource(int64(seed)))
		c := chose(t, []int{0, 1, 2, 5, r.Intn(20), -1, 1000}[seed%7])
		keys := []int{3, 10, 40}[seed%3]
		for range 400 {
			c.step(r.Intn(8), r.Intn(keys))
			c.alike()
			if r.Intn(20) == 0 {
				c.walk(func(int) {
					for range r.Intn(3) {
						c.step(r.Intn(8), r.Intn(keys))
					}
				})
			}
		}
	}
}

// A late one is a Due, told once more: by time, of one time in the order in which they were Set.
type late []lateOne

type lateOne struct{ key, at int }

func (l late) index(k int) int {
	return slices.IndexFunc(l, func(x lateOne) bool { return x.key == k })
}

func (l late) without(k int) late {
	return slices.DeleteFunc(slices.Clone(l), func(x lateOne) bool { return x.key == k })
}

func (l late) with(k, at int) late {
	l = append(l.without(k), lateOne{k, at})
	slices.SortStableFunc(l, func(x, y lateOne) int {
		switch {
		case x.at < y.at:
			return -1
		case x.at > y.at:
			return 1
		}
		return 0
	})
	return l
}

func (l late) upto(at int) late {
	return slices.DeleteFunc(slices.Clone(l), func(x lateOne) bool { return x.at > at })
}

// A timing is a Due and its model, to which the same is done.
type timing struct {
	t *testing.T
	d *lists.Due[int]
	l late
}

func (x *timing) step(what, k, at int) {
	x.t.Helper()
	switch what % 8 {
	case 0, 1, 2, 3:
		x.d.Set(k, at)
		x.l = x.l.with(k, at)
	case 4, 5:
		is(x.t, fmt.Sprintf("P9.2 Drop(%d)", k), x.d.Drop(k), x.l.index(k) >= 0)
		x.l = x.l.without(k)
	case 6:
		got, ok := x.d.At(k)
		want := 0
		if i := x.l.index(k); i >= 0 {
			want = x.l[i].at
		}
		is(x.t, fmt.Sprintf("P9.2 At(%d)", k), []any{got, ok}, []any{want, x.l.index(k) >= 0})
	case 7: // who is first goes
		for first, when := range x.d.Upto(math.MaxInt) {
			is(x.t, "P9.2 who is first", lateOne{first, when}, x.l[0])
			x.d.Drop(first)
			x.l = x.l.without(first)
			break
		}
	}
}

// walk walks along up to a time, and does more between its steps.
func (x *timing) walk(at int, more func()) {
	x.t.Helper()
	want, got := x.l.upto(at), late{}
	for k, when := range x.d.Upto(at) {
		got = append(got, lateOne{k, when})
		more()
	}
	if !slices.Equal(got, want) {
		x.t.Fatalf("P9.2 Upto(%d):\n got %v\nwant %v", at, got, want)
	}
}

func (x *timing) alike(at int) {
	x.t.Helper()
	x.walk(math.MaxInt, func() {})
	x.walk(at, func() {})
	is(x.t, "P9.2 Len", x.d.Len(), len(x.l))
	if x.t.Failed() {
		x.t.FailNow()
	}
}

func TestDueByChance(t *testing.T) {
	for seed := range 200 {
		r := rand.New(rand.NewSource(int64(seed)))
		x := &timing{t: t, d: lists.NewDue[int]()}
		keys, times := []int{3, 10, 60}[seed%3], []int{1, 3, 30, 1000}[seed%4]
		for range 300 {
			x.step(r.Intn(8), r.Intn(keys), r.Intn(times)-times/3)
			x.alike(r.Intn(times) - times/3)
			if r.Intn(20) == 0 {
				x.walk(r.Intn(times), func() {
					for range r.Intn(3) {
						x.step(r.Intn(8), r.Intn(keys), r.Intn(times))
					}
				})
			}
		}
	}
}

// As many as there are: who goes first is found again and again, whatever changes between.
func TestManyGoFirst(t *testing.T) {
	const many = 1 << 17
	l := lists.NewLRU[int](many / 4)
	for k := range many {
		l.Add(k)
	}
	for k := 0; k < many; k += 2 {
		l.Touch(k)
	}
	p, q := l.Len()
	is(t, "P9.1 Len of many", []int{p, q}, []int{many * 3 / 4, many / 4})
	want := []int{} // the odd ones, then those of the even ones that were protected first, then the rest of them
	for k := 1; k < many; k += 2 {
		want = append(want, k)
	}
	for k := 0; k < many; k += 2 {
		want = append(want, k)
	}
	for i, k := range want {
		first := ordered(l.Order(), 1)
		if len(first) != 1 || first[0] != k || !l.Drop(k) {
			t.Fatalf("P9.1 number %d of many: got %v, want %d", i, first, k)
		}
	}
	is(t, "P9.1 none of many are left", ordered(l.Order(), -1), []int{})
}

func TestManyAreDue(t *testing.T) {
	const many = 1 << 17
	d := lists.NewDue[int]()
	times := rand.New(rand.NewSource(7)).Perm(many)
	for k, at := range times {
		d.Set(k, at+many)
	}
	for k, at := range times {
		d.Set(k, at/2)
	}
	is(t, "P9.2 Len of many", d.Len(), many)
	for at := range many / 2 {
		one, two := -1, -1
		for k := range d.Upto(math.MaxInt) {
			if one >= 0 {
				two = k
				break
			}
			one = k
		}
		if one >= two || times[one]/2 != at || times[two]/2 != at || !d.Drop(one) || !d.Drop(two) {
			t.Fatalf("P9.2 at time %d of many: got %d, %d", at, one, two)
		}
	}
	is(t, "P9.2 none of many are left", d.Len(), 0)
}

// FuzzLists does what bytes say, to both lists and to their models, within walks, too.
func FuzzLists(f *testing.F) {
	f.Add(2, []byte("\x00\x01\x01\x00\x02\x02\x03\x01\x03\x0b\x02\x01\x07\x00\x05"))
	f.Fuzz(func(t *testing.T, most int, todo []byte) {
		c, x := chose(t, most), &timing{t: t, d: lists.NewDue[int]()}
		todo = todo[:min(len(todo), 600)]
		next := func() (what, k, at int, ok bool) {
			if len(todo) < 3 {
				return 0, 0, 0, false
			}
			what, k, at = int(todo[0]), int(todo[1]%16), int(int8(todo[2]))
			todo = todo[3:]
			return what, k, at, true
		}
		step := func() {
			if what, k, at, ok := next(); ok {
				c.step(what, k)
				x.step(what>>3, k, at)
			}
		}
		for len(todo) >= 3 {
			if todo[0]&128 != 0 {
				c.walk(func(int) { step() })
				x.walk(most%128, step)
			}
			step()
			c.alike()
			x.alike(most % 128)
		}
	})
}
