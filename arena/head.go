package arena

// A head tells what a piece is.
type head struct {
	free   bool
	marked bool // of a block
	owner  int  // a block's handle; a free piece's node in the lists
	size   int  // of a block, the bytes within; of a free piece, all that it takes
	ahead  int  // how many bytes the piece ahead takes, 0 if there is none
}

// A head is a word: size and ahead of so many digits, 2^20 at most; above them the owner, which is less than that; above it whether the piece is marked, and free.
const (
	digits    = 21
	lowest    = 1<<digits - 1
	ownerMost = 1<<20 - 1
	markBit   = 1 << 62
	freeBit   = 1 << 63
)

// takes is how many bytes the piece takes.
func (p head) takes() int {
	if p.free {
		return p.size
	}
	return Cost(p.size)
}

// head reads the head of the piece that begins there.
func (a *Arena) head(at int) head {
	var word uint64
	for _, b := range a.memory[at : at+headSize] {
		word = word<<8 | uint64(b)
	}
	return head{
		free:   word&freeBit != 0,
		marked: word&markBit != 0,
		owner:  int(word >> (2 * digits) & ownerMost),
		size:   int(word >> digits & lowest),
		ahead:  int(word & lowest),
	}
}

// putHead writes it.
func (a *Arena) putHead(at int, p head) {
	word := uint64(p.owner)<<(2*digits) | uint64(p.size)<<digits | uint64(p.ahead)
	if p.free {
		word |= freeBit
	}
	if p.marked {
		word |= markBit
	}
	for i := at + headSize - 1; i >= at; i-- {
		a.memory[i] = byte(word)
		word >>= 8
	}
}

// inside is the bytes of the block that begins there.
func (a *Arena) inside(at int) []byte {
	from := at + headSize
	return a.memory[from : from+a.head(at).size]
}
