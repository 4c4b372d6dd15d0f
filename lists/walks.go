package lists

// walks are those under way. Each goes along what is there itself, as long as nothing changes; so one that is stopped at its first step has copied nothing.
type walks[T any] []*walk[T]

type walk[T any] struct{ next func() (T, bool) }

// run walks as next tells, until there is no more, or the walk is stopped.
func (w *walks[T]) run(next func() (T, bool), yield func(T) bool) {
	x := &walk[T]{next: next}
	*w = append(*w, x)
	defer w.end(x)
	for v, ok := x.next(); ok && yield(v); {
		v, ok = x.next()
	}
}

// end forgets a walk, whichever way it was left.
func (w *walks[T]) end(x *walk[T]) {
	for i, y := range *w {
		if x == y {
			last := len(*w) - 1
			(*w)[i], (*w)[last] = (*w)[last], nil
			*w = (*w)[:last]
			return
		}
	}
}

// part gives each walk what is left of its own. It is called ahead of every change, so that what is walked is what was there when the walk began.
func (w *walks[T]) part() {
	for _, x := range *w {
		x.next = copied(x.next)
	}
	*w = nil
}

// copied tells what next would, whatever changes from now on.
func copied[T any](next func() (T, bool)) func() (T, bool) {
	var list []T
	for x, ok := next(); ok; x, ok = next() {
		list = append(list, x)
	}
	return func() (x T, ok bool) {
		if len(list) == 0 {
			return x, false
		}
		x, list = list[0], list[1:]
		return x, true
	}
}
