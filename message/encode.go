package message

import (
	"freshet/api"
	"freshet/name"
	"freshet/record"
	"freshet/wname"
)

// The head's sixteen digits: single ones, three that are 0, and where those of Opcode begin; Code's are the lowest.
const (
	response  = 1 << 15
	authority = 1 << 10
	cut       = 1 << 9
	desired   = 1 << 8
	available = 1 << 7
	zeros     = 7 << 4
	opcodeAt  = 11
)

// Encode writes one.
func Encode(m api.Message) ([]byte, api.Errno) {
	if !Check(m) {
		return nil, api.ErrArg
	}
	w := wname.New(api.MaxMsg)
	writeHead(w, m)
	for _, q := range m.Questions {
		w.Name(q.Name, true)
		w.Two(q.Type)
		w.Two(q.Class)
	}
	for _, r := range Records(m) {
		writeRecord(w, r)
	}
	if m.EDNS {
		writeRecord(w, api.RR{Name: name.Root, Type: api.OPT, Class: m.Size})
	}
	return w.Out()
}

// writeHead writes the first twelve bytes.
func writeHead(w *wname.Writer, m api.Message) {
	w.Two(m.ID)
	w.Two(digits(m))
	w.Two(len(m.Questions))
	w.Two(len(m.Answers))
	w.Two(len(m.Servers))
	if m.EDNS {
		w.Two(len(m.Additional) + 1)
	} else {
		w.Two(len(m.Additional))
	}
}

// digits is the head's sixteen digits.
func digits(m api.Message) int {
	d := m.Opcode<<opcodeAt | m.Code
	for _, single := range [...]struct {
		on    bool
		digit int
	}{
		{m.Response, response},
		{m.Authority, authority},
		{m.Cut, cut},
		{m.Desired, desired},
		{m.Available, available},
	} {
		if single.on {
			d |= single.digit
		}
	}
	return d
}

// writeRecord writes a record.
func writeRecord(w *wname.Writer, r api.RR) {
	w.Name(r.Name, true)
	w.Two(r.Type)
	w.Two(r.Class)
	w.Four(r.TTL)
	size := w.Len()
	w.Two(0) // how many bytes data has is known when it is written
	writeData(w, r)
	w.Set(size, w.Len()-size-2)
}

// writeData writes a record's data, the names in it as names.
func writeData(w *wname.Writer, r api.RR) {
	behind := 0
	for at, n := range record.Names(r.Type, r.Data) {
		w.Bytes([]byte(r.Data[behind:at])...)
		behind = at + n
		w.Name(r.Data[at:behind], r.Type != api.SRV)
	}
	w.Bytes([]byte(r.Data[behind:])...)
}

// Fit writes one into so many bytes.
func Fit(m api.Message, most int) ([]byte, api.Errno) {
	b, e := Encode(m)
	if e == api.ErrArg {
		return nil, e
	}
	if e == api.OK && len(b) <= most {
		return b, e
	}
	m.Cut = true
	for _, l := range [...]*[]api.RR{&m.Additional, &m.Servers, &m.Answers} {
		*l = nil
		if b, e := Encode(m); e == api.OK && len(b) <= most {
			return b, e
		}
	}
	return nil, api.ErrBig
}
