package message

import (
	"freshet/api"
	"freshet/name"
	"freshet/record"
	"freshet/wname"
)

// headSize is how many bytes the head has.
const headSize = 12

// Decode reads one.
func Decode(b []byte) (m api.Message, head bool, e api.Errno) {
	if len(b) < headSize {
		return api.Message{}, false, api.ErrBad
	}
	r := &reader{b: b}
	first, counts := r.head()
	if r.e == api.OK {
		m = r.body(first, counts)
	}
	if r.e != api.OK {
		return first, true, r.e
	}
	return m, true, api.OK
}

// A reader reads a message. Behind the first thing wrong nothing is read any more: zeros are told.
type reader struct {
	b  []byte
	at int
	e  api.Errno // the first thing wrong
}

// note keeps what is wrong, if nothing was so far.
func (r *reader) note(e api.Errno) {
	if r.e == api.OK {
		r.e = e
	}
}

// must notes that something is not so.
func (r *reader) must(ok bool) {
	if !ok {
		r.note(api.ErrBad)
	}
}

// bytes reads so many: a part of what is read, not to be kept.
func (r *reader) bytes(n int) []byte {
	r.must(0 <= n && n <= len(r.b)-r.at)
	if r.e != api.OK {
		return nil
	}
	from := r.at
	r.at += n
	return r.b[from:r.at]
}

// number reads one of so many bytes, the highest first.
func (r *reader) number(n int) int {
	v := 0
	for _, c := range r.bytes(n) {
		v = v<<8 | int(c)
	}
	return v
}

// two reads a number of two bytes.
func (r *reader) two() int { return r.number(2) }

// name reads a name.
func (r *reader) name() string {
	n, next, e := wname.Get(r.b, r.at)
	r.note(e)
	if r.e != api.OK {
		return ""
	}
	r.at = next
	return n
}

// head reads the first twelve bytes: their fields, and how many there are of all else.
func (r *reader) head() (m api.Message, counts [4]int) {
	m.ID = r.two()
	d := r.two()
	m.Response = d&response != 0
	m.Opcode = d >> opcodeAt & mostOfDigits
	m.Authority = d&authority != 0
	m.Cut = d&cut != 0
	m.Desired = d&desired != 0
	m.Available = d&available != 0
	m.Code = d & mostOfDigits
	for i := range counts {
		counts[i] = r.two()
	}
	r.must(d&zeros == 0 && counts[0] <= mostQuestions && len(r.b) <= api.MaxMsg)
	return m, counts
}

// body reads all behind the head into m.
func (r *reader) body(m api.Message, counts [4]int) api.Message {
	for range counts[0] {
		m.Questions = append(m.Questions, api.Question{Name: r.name(), Type: r.two(), Class: r.two()})
	}
	for section, l := range [...]*[]api.RR{&m.Answers, &m.Servers, &m.Additional} {
		for i := 0; i < counts[1+section] && r.e == api.OK; i++ {
			x := r.record()
			if x.Type == api.OPT {
				r.must(section == additional && x.Name == name.Root && !m.EDNS)
				m.EDNS, m.Size = true, x.Class
				continue
			}
			r.must(record.Check(x))
			*l = append(*l, x)
		}
		r.must(len(*l) <= api.MaxRRs)
	}
	r.must(r.at == len(r.b))
	return m
}

// record reads a record, of whatever type.
func (r *reader) record() api.RR {
	x := api.RR{Name: r.name(), Type: r.two(), Class: r.two(), TTL: r.number(4)}
	if x.TTL >= api.MaxTTL {
		x.TTL = 0
	}
	x.Data = r.data(x.Type, r.two())
	return x
}

// data reads the data of a record of type t, of so many bytes, the names in it in whole.
func (r *reader) data(t, size int) string {
	end := r.at + size
	ahead, names := record.Layout(t)
	d := string(r.bytes(ahead))
	for range names {
		d += r.name()
	}
	// If that went beyond the end, less than nothing is left, and that is wrong.
	return d + string(r.bytes(end-r.at))
}
