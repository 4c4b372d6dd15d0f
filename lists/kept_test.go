package lists_test

import (
	"math"
	"runtime"
	"testing"

	"freshet/lists"
)

// held is how many bytes are held.
func held() int {
	runtime.GC()
	var m runtime.MemStats
	runtime.ReadMemStats(&m)
	return int(m.HeapAlloc)
}

// keepsLittle holds that what was done holds less than so many bytes more.
func keepsLittle(t *testing.T, what string, most int, done func()) {
	t.Helper()
	was := held()
	done()
	if more := held() - was; more > most {
		t.Errorf("%s: %d bytes are held", what, more)
	}
}

// Those that went leave nothing behind: neither the keys nor room for ever more.
func TestNothingIsKept(t *testing.T) {
	type big [1 << 20]byte
	l, d := lists.NewLRU[*big](3), lists.NewDue[*big]()
	keepsLittle(t, "P9.3 great keys that went", 8<<20, func() {
		keys := []*big{}
		for i := range 64 {
			k := new(big)
			keys = append(keys, k)
			l.Add(k)
			d.Set(k, i)
			l.Touch(k)
		}
		for _, k := range keys {
			l.Drop(k)
			d.Drop(k)
		}
	})
	few, soon := lists.NewLRU[int](3), lists.NewDue[int]()
	keepsLittle(t, "P9.3 a few at a time", 4<<20, func() {
		for k := range 300000 {
			few.Add(k)
			soon.Set(k, k)
			few.Drop(k - 10)
			soon.Drop(k - 10)
		}
	})
	p, q := few.Len()
	is(t, "P9.3 the few", []int{p, q, soon.Len()}, []int{10, 0, 10})
	runtime.KeepAlive(l)
	runtime.KeepAlive(d)
}

// A walk over many between whose steps there are changes copies what is left but once.
func TestManyGoWhileWalked(t *testing.T) {
	const many = 1 << 17
	l, d := lists.NewLRU[int](many), lists.NewDue[int]()
	for k := range many {
		l.Add(k)
		d.Set(k, many-k)
	}
	count := 0
	for k := range l.Order() {
		if k != count || !l.Drop(k) {
			t.Fatalf("P9.1 number %d of many: %d", count, k)
		}
		count++
	}
	for k, at := range d.Upto(math.MaxInt) {
		count--
		if k != count || at != many-k || !d.Drop(k) {
			t.Fatalf("P9.2 number %d of many: %d, at %d", many-count, k, at)
		}
	}
	p, q := l.Len()
	is(t, "P9.1 all were walked, and went", []int{p, q, d.Len(), count}, []int{0, 0, 0, 0})
}
