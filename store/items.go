package store

import (
	"cmp"
	"slices"

	"freshet/api"
	"freshet/name"
	"freshet/pack"
)

// A key is an item's Key, its name by the id: that one is the name's as long as the item is there.
type key struct{ nameID, rrType int }

// An entry is what is kept of an item, beside its set, which has a block of the arena, and its expiry, which stands in due.
type entry struct {
	handle int // the block's
	rank   int
	came   int
	pins   int
}

// find is the item of a Key, if it is there.
func (s *Store) find(k api.Key) (key, *entry, bool) {
	if s == nil {
		return key{}, nil, false
	}
	id, ok := s.names.Find(k.Name)
	if !ok {
		return key{}, nil, false
	}
	at := key{id, k.Type}
	x, ok := s.entries[at]
	return at, x, ok
}

func (s *Store) pinned(at key) bool { return s.entries[at].pins > 0 }

// item tells all of one that is there.
func (s *Store) item(at key) Item {
	x := s.entries[at]
	set, _ := pack.Get(s.arena, s.names, x.handle)
	expiry, _ := s.due.At(at)
	return Item{Set: set, Rank: x.rank, Came: x.came, Expiry: expiry, Pins: x.pins}
}

// sorted is all items, by name and type.
func (s *Store) sorted() []Item {
	var l []Item
	for at := range s.entries {
		l = append(l, s.item(at))
	}
	slices.SortFunc(l, func(x, y Item) int { return compare(x.Set.Key, y.Set.Key) })
	return l
}

// compare orders two Keys, both folded: below 0, 0, above 0.
func compare(x, y api.Key) int {
	if x.Name == y.Name {
		return cmp.Compare(x.Type, y.Type)
	}
	if name.Less(x.Name, y.Name) {
		return -1
	}
	return 1
}

// add puts a set in, for which there is room, and of whose Key there is no item.
func (s *Store) add(x api.Set, of entry, expiry int) api.Errno {
	h, e := pack.Put(s.arena, s.names, x)
	if e != api.OK {
		return e
	}
	of.handle = h
	id, _ := s.names.Find(x.Key.Name)
	at := key{id, x.Key.Type}
	s.entries[at] = &of
	s.recent.Add(at)
	s.due.Set(at, expiry)
	return api.OK
}

// remove takes an item out, whoever holds it.
func (s *Store) remove(at key) {
	pack.Drop(s.arena, s.names, s.entries[at].handle)
	delete(s.entries, at)
	s.recent.Drop(at)
	s.due.Drop(at)
}
