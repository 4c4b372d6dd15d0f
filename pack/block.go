package pack

import (
	"freshet/api"
	"freshet/arena"
	"freshet/intern"
	"freshet/record"
)

// A block begins with four numbers: the id of the Key's name, Type, Kind, the id of Zone. Behind them, of each record, stand how many bytes it has there, and these: its Data, with an id for each name. All numbers have their highest byte first.
const (
	idSize    = 4
	headSize  = 4 * idSize
	countSize = 2
)

// dataSize is how many bytes a record's Data has in a block.
func dataSize(r api.RR) int {
	size := len(r.Data)
	for _, n := range record.Names(r.Type, r.Data) {
		size += idSize - n
	}
	return size
}

// packed is a set's block; ids are those of its names, one for each.
func packed(s api.Set, ids []int) []byte {
	b := appendNumber(nil, ids[0], idSize)
	b = appendNumber(b, s.Key.Type, idSize)
	b = appendNumber(b, s.Kind, idSize)
	b = appendNumber(b, ids[1], idSize)
	ids = ids[2:]
	for _, r := range s.RRs {
		b = appendNumber(b, dataSize(r), countSize)
		b, ids = appendData(b, r, ids)
	}
	return b
}

// appendData writes a record's Data: what is not a name as it stands, and of each name the next id. It answers the ids that are left, too.
func appendData(b []byte, r api.RR, ids []int) ([]byte, []int) {
	done := 0
	for at, n := range record.Names(r.Type, r.Data) {
		b = append(b, r.Data[done:at]...)
		b = appendNumber(b, ids[0], idSize)
		ids, done = ids[1:], at+n
	}
	return append(b, r.Data[done:]...), ids
}

// appendNumber writes a number of so many bytes.
func appendNumber(b []byte, v, size int) []byte {
	for i := size - 1; i >= 0; i-- {
		b = append(b, byte(v>>(8*i)))
	}
	return b
}

// held is the set whose block has that handle, and the ids of its names, as often as they stand in it.
func held(a *arena.Arena, t *intern.Table, h int) (api.Set, []int, bool) {
	if !a.Marked(h) {
		return api.Set{}, nil, false
	}
	size, _ := a.Size(h)
	b, _ := a.Read(h, 0, size)
	r := reader{table: t, left: b}
	s := r.set()
	// Who has the arena may write into the block, and who has the table may drop its names: what is none any more may not be told.
	if n, e := Size(s); r.bad || e != api.OK || n != size {
		return api.Set{}, nil, false
	}
	return s, r.ids, true
}

// A reader reads a block, from its beginning on.
type reader struct {
	table *intern.Table
	left  []byte
	ids   []int // all that were met
	bad   bool  // bytes were missing, or an id was no name's
}

// set is what stands in the block.
func (r *reader) set() api.Set {
	var s api.Set
	s.Key.Name = r.name()
	s.Key.Type = r.number(idSize)
	s.Kind = r.number(idSize)
	s.Zone = r.name()
	for len(r.left) > 0 && !r.bad {
		data := r.data(s.Key.Type)
		s.RRs = append(s.RRs, api.RR{Name: s.Key.Name, Type: s.Key.Type, Class: api.IN, Data: data})
	}
	return s
}

// data is the Data of the next record, whose names are where the type has them.
func (r *reader) data(t int) string {
	size := r.number(countSize)
	ahead, names := record.Layout(t)
	d := string(r.take(ahead))
	for range names {
		d += r.name()
	}
	return d + string(r.take(size-ahead-names*idSize))
}

// name is the one whose id is next.
func (r *reader) name() string {
	id := r.number(idSize)
	n, ok := r.table.Name(id)
	r.ids = append(r.ids, id)
	r.bad = r.bad || !ok
	return n
}

// number is the next number, of so many bytes.
func (r *reader) number(size int) int {
	v := 0
	for _, c := range r.take(size) {
		v = v<<8 | int(c)
	}
	return v
}

// take is the next bytes: none, if there are not so many.
func (r *reader) take(n int) []byte {
	if n < 0 || n > len(r.left) {
		r.bad = true
		return nil
	}
	b := r.left[:n]
	r.left = r.left[n:]
	return b
}
