package lists

// heap is a list whose first one goes ahead of all others: nobody stands below one that it goes ahead of. Below each place there are two, side by side.
type heap[T any] struct {
	list  []T
	ahead func(x, y T) bool
	moved func(x T, place int) // is told where each comes to stand; may be nil
}

// below is the first of the two places below one.
func below(place int) int { return 2*place + 1 }

func above(place int) int { return (place - 1) / 2 }

// push puts one in.
func (h *heap[T]) push(x T) {
	h.list = append(h.list, x)
	h.rise(x, len(h.list)-1)
}

// take takes out who stands at a place; who is last comes in for it.
func (h *heap[T]) take(place int) T {
	x, end := h.list[place], len(h.list)-1
	last := h.list[end]
	h.list = h.list[:end]
	if place < end && h.rise(last, place) == place {
		h.sink(last, place)
	}
	return x
}

// put lets one stand at a place.
func (h *heap[T]) put(x T, place int) {
	h.list[place] = x
	if h.moved != nil {
		h.moved(x, place)
	}
}

// rise puts one at a place that is its to take, or as far above as it goes ahead: where.
func (h *heap[T]) rise(x T, place int) int {
	for place > 0 && h.ahead(x, h.list[above(place)]) {
		h.put(h.list[above(place)], place)
		place = above(place)
	}
	h.put(x, place)
	return place
}

// sink puts one at such a place, or as far below as others go ahead.
func (h *heap[T]) sink(x T, place int) {
	for next, ok := h.next(place); ok && h.ahead(h.list[next], x); next, ok = h.next(place) {
		h.put(h.list[next], place)
		place = next
	}
	h.put(x, place)
}

// next is which of the two places below one goes ahead of the other, if there is anyone.
func (h *heap[T]) next(place int) (int, bool) {
	one := below(place)
	if two := one + 1; two < len(h.list) && h.ahead(h.list[two], h.list[one]) {
		return two, true
	}
	return one, one < len(h.list)
}
