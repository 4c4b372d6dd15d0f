package match

import (
	"slices"

	"freshet/api"
	"freshet/record"
)

// A group is the records of one Key.
type group struct {
	key api.Key
	rrs []api.RR
}

// Sets is records by name and type.
func Sets(l []api.RR) func(yield func(api.Key, []api.RR) bool) {
	// A walk may come when l is another one already.
	groups := grouped(record.Copied(l))
	return func(yield func(api.Key, []api.RR) bool) {
		for _, g := range groups {
			// Who walks may change what is told: the next walk tells the same all the same.
			if !yield(g.key, slices.Clone(g.rrs)) {
				return
			}
		}
	}
}

// grouped is the groups of the records of Class IN, each record once.
func grouped(l []api.RR) []group {
	var groups []group
	places := map[api.Key]int{} // in groups
	met := map[api.RR]struct{}{}
	for _, r := range l {
		folded := record.Folded(r)
		if _, twice := met[folded]; twice || r.Class != api.IN {
			continue
		}
		met[folded] = struct{}{}
		key := api.Key{Name: folded.Name, Type: r.Type}
		at, there := places[key]
		if !there {
			at = len(groups)
			places[key] = at
			groups = append(groups, group{key: key})
		}
		groups[at].rrs = append(groups[at].rrs, r)
	}
	return groups
}
