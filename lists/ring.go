package lists

// An LRU's keys go in one ring, linked by index: those on probation from the oldest on, a mark, those that are protected from the oldest on, a mark, and so on from the first. The number of a part is the index of the mark behind it.
const (
	ofProbation = 0
	ofProtected = 1
	parts       = 2
)

// A seat is where one stands: its part, and its neighbours' indices.
type seat struct{ part, older, newer int }

func (l *LRU[K]) seat(at int) *seat { return &l.seats.rows[at].value }

// link puts two side by side.
func (l *LRU[K]) link(older, newer int) {
	l.seat(older).newer, l.seat(newer).older = newer, older
}

// join makes one who is in no part the newest of one.
func (l *LRU[K]) join(at, part int) {
	l.seat(at).part = part
	l.link(l.seat(part).older, at)
	l.link(at, part)
	l.count[part]++
}

// leave takes one out of its part.
func (l *LRU[K]) leave(at int) {
	s := l.seat(at)
	l.link(s.older, s.newer)
	l.count[s.part]--
}

// demote puts the oldest protected one, which there must be, back on probation.
func (l *LRU[K]) demote() {
	oldest := l.seat(ofProbation).newer
	l.leave(oldest)
	l.join(oldest, ofProbation)
}

// find is where one stands.
func (l *LRU[K]) find(k K) (int, bool) {
	if l == nil {
		return 0, false
	}
	return l.seats.find(k)
}

// steps tells one after the other, along the ring.
func (l *LRU[K]) steps() func() (K, bool) {
	at, left := ofProtected, l.count[ofProbation]+l.count[ofProtected]
	return func() (k K, ok bool) {
		if left == 0 {
			return k, false
		}
		left--
		at = l.seat(at).newer
		if at == ofProbation { // the mark between the parts
			at = l.seat(at).newer
		}
		return l.seats.rows[at].key, true
	}
}
