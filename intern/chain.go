package intern

import "freshet/api"

// The index is chains: names that its hash does not tell apart, linked by their blocks. There is one chain for so many bytes of the arena: a name takes 32 of them at least, so that two names are in each if there is nothing but the shortest ones.
const chainShare = 64

// An entry is a name that is there: where it is linked, and its block.
type entry struct {
	chain int
	ahead int // the id of the one ahead of it in the chain, 0 if it is the first one
	id    int
	block
}

// chainOf is in which chain a folded name is, if it is there.
func (t *Table) chainOf(folded string) int {
	return int(hash(folded) % uint32(len(t.first)))
}

// hash is FNV-1a.
func hash(folded string) uint32 {
	h := uint32(2166136261)
	for i := range len(folded) {
		h = (h ^ uint32(folded[i])) * 16777619
	}
	return h
}

// find looks for a folded name.
func (t *Table) find(folded string) (entry, bool) {
	if t == nil {
		return entry{}, false
	}
	chain := t.chainOf(folded)
	ahead, id := 0, int(t.first[chain])
	// No more steps than there are names: who has the arena may write into the blocks, and so make a ring of a chain.
	for range t.count {
		b, ok := t.block(id)
		if !ok {
			break
		}
		if b.name == folded {
			return entry{chain: chain, ahead: ahead, id: id, block: b}, true
		}
		ahead, id = id, b.next
	}
	return entry{}, false
}

// held looks for an id. The arena has other blocks, too, whatever stands in them: a name's is the one that is found by the name in it.
func (t *Table) held(id int) (entry, bool) {
	if t == nil {
		return entry{}, false
	}
	b, ok := t.block(id)
	if !ok {
		return entry{}, false
	}
	x, ok := t.find(b.name)
	if !ok || x.id != id {
		return entry{}, false
	}
	return x, true
}

// put makes a folded name that is not there the first one of its chain.
func (t *Table) put(folded string) (int, api.Errno) {
	id, e := t.arena.Alloc(headSize + len(folded))
	if e != api.OK {
		return 0, e
	}
	chain := t.chainOf(folded)
	t.write(id, block{uses: 1, next: int(t.first[chain]), name: folded})
	t.first[chain] = int32(id)
	t.count++
	return id, api.OK
}

// unlink takes a name out of its chain.
func (t *Table) unlink(x entry) {
	t.count--
	if x.ahead == 0 {
		t.first[x.chain] = int32(x.next)
		return
	}
	ahead, _ := t.block(x.ahead)
	ahead.next = x.next
	t.write(x.ahead, ahead)
}
