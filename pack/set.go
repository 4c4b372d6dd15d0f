package pack

import (
	"freshet/api"
	"freshet/intern"
	"freshet/name"
	"freshet/record"
)

// Edges of a set.
const (
	mostType = 1<<16 - 1
	mostRRs  = 32
)

// Kinds of sets.
const (
	ofRecords = 0
	noType    = 1
	noName    = 2
)

// mayBe tells whether a set may be.
func mayBe(s api.Set) bool {
	if !name.Valid(s.Key.Name) || !name.Valid(s.Zone) || s.Key.Type < 1 || s.Key.Type > mostType {
		return false
	}
	switch s.Kind {
	case ofRecords:
		return 1 <= len(s.RRs) && len(s.RRs) <= mostRRs && areOf(s.Key, s.RRs)
	case noType, noName:
		return len(s.RRs) == 0
	}
	return false
}

// areOf tells whether records may be those of a Key.
func areOf(k api.Key, l []api.RR) bool {
	for _, r := range l {
		if !name.Same(r.Name, k.Name) || r.Type != k.Type || r.Class != api.IN || !record.Data(r.Type, r.Data) {
			return false
		}
	}
	return true
}

// names is a set's, as often as they stand in it: the Key's, Zone's, and those of Data.
func names(s api.Set) func(yield func(string) bool) {
	return func(yield func(string) bool) {
		if !yield(s.Key.Name) || !yield(s.Zone) {
			return
		}
		for _, r := range s.RRs {
			for at, n := range record.Names(r.Type, r.Data) {
				if !yield(r.Data[at : at+n]) {
					return
				}
			}
		}
	}
}

// addNames adds all names of a set, or none: their ids.
func addNames(t *intern.Table, s api.Set) ([]int, api.Errno) {
	var ids []int
	for n := range names(s) {
		id, e := t.Add(n)
		if e != api.OK {
			dropNames(t, ids)
			return nil, e
		}
		ids = append(ids, id)
	}
	return ids, api.OK
}

// dropNames drops one use for each time that an id is there.
func dropNames(t *intern.Table, ids []int) {
	for _, id := range ids {
		t.Drop(id)
	}
}
