package intern

import "freshet/api"

// A block is what stands in a name's: its head, two numbers of four bytes, and the name.
type block struct {
	uses int
	next int // the id of the next name of its chain, 0 if it is the last one
	name string
}

const headSize = 8

// block reads what has that id; whether it is a name's, its bytes alone can't tell.
func (t *Table) block(id int) (block, bool) {
	size, _ := t.arena.Size(id)
	b, e := t.arena.Read(id, 0, size)
	if e != api.OK || size < headSize {
		return block{}, false
	}
	return block{uses: four(b), next: four(b[4:]), name: string(b[headSize:])}, true
}

// write writes all of a block.
func (t *Table) write(id int, x block) {
	b := make([]byte, 0, headSize+len(x.name))
	b = appendFour(b, x.uses)
	b = appendFour(b, x.next)
	b = append(b, x.name...)
	t.arena.Write(id, 0, b)
}

// four is the number that b begins with.
func four(b []byte) int {
	return int(b[0])<<24 | int(b[1])<<16 | int(b[2])<<8 | int(b[3])
}

func appendFour(b []byte, n int) []byte {
	return append(b, byte(n>>24), byte(n>>16), byte(n>>8), byte(n))
}
