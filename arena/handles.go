package arena

import (
	"math"
	"math/bits"
)

const wordBits = 64

// handles is a table of fixed size: where the block of each handle begins.
type handles struct {
	places []int32
	used   []uint64 // a bit for each handle
	low    int      // all words of used ahead of this one are full
}

// newHandles is a table of most handles at least.
func newHandles(most int) handles {
	words := (most + wordBits - 1) / wordBits
	return handles{places: make([]int32, words*wordBits), used: make([]uint64, words)}
}

// bit is where in used the bit of a handle stands.
func bit(h int) (word int, mask uint64) {
	return (h - 1) / wordBits, 1 << ((h - 1) % wordBits)
}

// take is the least handle that is not used; there must be one.
func (t *handles) take(place int) int {
	for t.used[t.low] == math.MaxUint64 {
		t.low++
	}
	h := t.low*wordBits + bits.TrailingZeros64(^t.used[t.low]) + 1
	_, mask := bit(h)
	t.used[t.low] |= mask
	t.move(h, place)
	return h
}

// drop gives a handle back.
func (t *handles) drop(h int) {
	word, mask := bit(h)
	t.used[word] &^= mask
	t.low = min(t.low, word)
}

// move changes the place of a handle's block.
func (t *handles) move(h, place int) { t.places[h-1] = int32(place) }

// place is where the block of a handle begins, if it is used.
func (t *handles) place(h int) (int, bool) {
	if h < 1 || h > len(t.places) {
		return 0, false
	}
	if word, mask := bit(h); t.used[word]&mask == 0 {
		return 0, false
	}
	return int(t.places[h-1]), true
}

// all is the handles that are used, and their places.
func (t *handles) all() func(yield func(h, place int) bool) {
	return func(yield func(h, place int) bool) {
		for i := range t.places {
			if place, ok := t.place(i + 1); ok && !yield(i+1, place) {
				return
			}
		}
	}
}
