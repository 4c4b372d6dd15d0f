package lists

// table is values by key, in rows: a key that is there keeps the index of its row.
type table[K comparable, V any] struct {
	index map[K]int
	rows  []row[K, V]
	spare []int // the rows that nobody has any more
}

type row[K comparable, V any] struct {
	key   K
	value V
}

// newTable has no keys; so many rows ahead of all others are nobody's.
func newTable[K comparable, V any](ahead int) table[K, V] {
	return table[K, V]{index: map[K]int{}, rows: make([]row[K, V], ahead)}
}

// able tells whether a key can be held against others: of the values of an interface's type some can't, at which a map panics.
func able[K comparable](k K) (ok bool) {
	defer func() { ok = recover() == nil }()
	var none map[K]int
	_ = none[k]
	return true
}

// takes tells whether a key may be there: in a table that newTable made.
func (t *table[K, V]) takes(k K) bool { return t.index != nil && able(k) }

// find is the row of a key, if it is there.
func (t *table[K, V]) find(k K) (int, bool) {
	if !t.takes(k) {
		return 0, false
	}
	at, ok := t.index[k]
	return at, ok
}

// add gives a row to a key that may be there, and is not.
func (t *table[K, V]) add(k K) int {
	at := len(t.rows)
	if last := len(t.spare) - 1; last >= 0 {
		at, t.spare = t.spare[last], t.spare[:last]
	} else {
		t.rows = append(t.rows, row[K, V]{})
	}
	t.rows[at].key = k
	t.index[k] = at
	return at
}

// drop takes a key out.
func (t *table[K, V]) drop(at int) {
	delete(t.index, t.rows[at].key)
	t.rows[at] = row[K, V]{}
	t.spare = append(t.spare, at)
}
