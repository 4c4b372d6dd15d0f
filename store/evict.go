package store

import (
	"freshet/api"
	"freshet/pack"
)

// makeRoom evicts until there is room for a set. Each that goes may take names along that the set needs, so that what it costs is asked anew.
func (s *Store) makeRoom(x api.Set, now int) api.Errno {
	for pack.Cost(s.names, x) > s.Left() {
		at, ok := s.first(now)
		if !ok {
			return api.ErrFull
		}
		s.evict(at)
	}
	return api.OK
}

// first is who has to go first, if anyone may: of those that are over, else of all.
func (s *Store) first(now int) (key, bool) {
	for at := range s.due.Upto(now) {
		if !s.pinned(at) {
			return at, true
		}
	}
	for at := range s.recent.Order() {
		if !s.pinned(at) {
			return at, true
		}
	}
	return key{}, false
}

// evict takes an item out, and keeps its Key for who asks.
func (s *Store) evict(at key) {
	n, _ := s.names.Name(at.nameID)
	s.evicted = append(s.evicted, api.Key{Name: n, Type: at.rrType})
	s.remove(at)
}
