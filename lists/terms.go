package lists

// A term is when one is due: of two of one time the turn tells who was Set first.
type term struct {
	at    int
	turn  int
	place int // in the heap
}

// timed is one, and when.
type timed[K comparable] struct {
	key K
	at  int
}

func (d *Due[K]) term(i int) *term { return &d.terms.rows[i].value }

// ahead tells whether the term at one index goes ahead of that at another.
func (d *Due[K]) ahead(i, j int) bool {
	one, two := d.term(i), d.term(j)
	return one.at < two.at || one.at == two.at && one.turn < two.turn
}

func (d *Due[K]) moved(i, place int) { d.term(i).place = place }

// find is the index of one's term.
func (d *Due[K]) find(k K) (int, bool) {
	if d == nil {
		return 0, false
	}
	return d.terms.find(k)
}

// steps tells one after the other, by time. The heap is left as it is: those of its places that may be next wait in a heap of their own, each from when the one above it was told.
func (d *Due[K]) steps(most int) func() (timed[K], bool) {
	waiting := heap[int]{ahead: func(p, q int) bool { return d.ahead(d.heap.list[p], d.heap.list[q]) }}
	wait := func(place int) {
		if place < len(d.heap.list) && d.term(d.heap.list[place]).at <= most {
			waiting.push(place)
		}
	}
	wait(0)
	return func() (x timed[K], ok bool) {
		if len(waiting.list) == 0 {
			return x, false
		}
		place := waiting.take(0)
		wait(below(place))
		wait(below(place) + 1)
		r := d.terms.rows[d.heap.list[place]]
		return timed[K]{key: r.key, at: r.value.at}, true
	}
}
