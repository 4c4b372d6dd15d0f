package arena

import "math/bits"

// The memory is pieces, one behind the other: blocks, and what is free between them, which is one piece as far as it goes. Each begins with a head.
const (
	leastPiece = 16 // every piece is a number of these
	headSize   = 8
)

// Free pieces are listed by the power of two that they reach, 2^4 to 2^20. As a block takes a power of two, it fits into each piece of its own class, and of those above.
const classes = 17

// classOf is the class of a piece of so many bytes.
func classOf(size int) int { return bits.Len(uint(size/leastPiece)) - 1 }

// end is where the last piece ends: what is behind is too little for any.
func (a *Arena) end() int { return len(a.memory) / leastPiece * leastPiece }

// room is a free piece that a block of that cost fits into; so much must be left, wherever it lies.
func (a *Arena) room(cost int) int {
	at, ok := a.fitting(cost)
	if !ok {
		a.slide()
		at, _ = a.fitting(cost)
	}
	return at
}

// fitting is such a piece as they lie, of the lowest class that has one.
func (a *Arena) fitting(cost int) (at int, ok bool) {
	for class := classOf(cost); class < classes && !ok; class++ {
		at, ok = a.free.first(class)
	}
	return at, ok
}

// settle makes a block of a free piece; what is left of that stays free.
func (a *Arena) settle(at, h, n int) {
	was, _ := a.takeFree(at)
	a.putHead(at, head{owner: h, size: n, ahead: was.ahead})
	clear(a.inside(at))
	if cost := Cost(n); cost < was.size {
		a.putFree(at+cost, was.size-cost, cost)
	}
}

// release makes a free piece of a block and of what is free on either side.
func (a *Arena) release(at int) {
	block := a.head(at)
	size, ahead := block.takes(), block.ahead
	if next, ok := a.takeFree(at + size); ok {
		size += next.size
	}
	// Of the first piece this asks the block itself, which is not free.
	if last, ok := a.takeFree(at - ahead); ok {
		at, size, ahead = at-ahead, size+last.size, last.ahead
	}
	a.putFree(at, size, ahead)
}

// takeFree takes a piece out of the lists, if it is free.
func (a *Arena) takeFree(at int) (head, bool) {
	if at == a.end() {
		return head{}, false
	}
	p := a.head(at)
	if p.free {
		a.free.drop(p.owner)
	}
	return p, p.free
}

// putFree makes a free piece, and tells the one behind it.
func (a *Arena) putFree(at, size, ahead int) {
	a.putHead(at, head{free: true, owner: a.free.push(classOf(size), at), size: size, ahead: ahead})
	if next := at + size; next < a.end() {
		p := a.head(next)
		p.ahead = size
		a.putHead(next, p)
	}
}

// slide moves all blocks to the beginning, so that one free piece is behind them.
func (a *Arena) slide() {
	to, ahead := 0, 0
	for at := 0; at < a.end(); {
		p := a.head(at)
		size := p.takes()
		if !p.free {
			copy(a.memory[to:], a.memory[at:at+size])
			p.ahead = ahead
			a.putHead(to, p)
			a.handles.move(p.owner, to)
			to, ahead = to+size, size
		}
		at += size
	}
	a.free = newChains[int](classes)
	if to < a.end() {
		a.putFree(to, a.end()-to, ahead)
	}
}
