package wname

import (
	"bytes"
	"strings"

	"freshet/api"
	"freshet/name"
)

// Writer writes a message.
type Writer struct {
	most   int
	size   int            // of what was written
	out    []byte         // what was written; none once it is more than most, as nobody is to have it then
	bad    bool           // a name was not Valid
	places map[string]int // what was left of names, and where it began: a pointer may go there
}

// New is one.
func New(most int) *Writer { return &Writer{most: most} }

// Bytes writes bytes.
func (w *Writer) Bytes(b ...byte) {
	if w == nil {
		return
	}
	w.size += len(b)
	if w.size > w.most {
		w.out = nil
		return
	}
	w.out = append(w.out, b...)
}

// Two writes two bytes.
func (w *Writer) Two(n int) {
	w.Bytes(byte(n>>8), byte(n))
}

// Four writes four bytes.
func (w *Writer) Four(n int) {
	w.Two(n >> 16)
	w.Two(n)
}

// Name writes a name.
func (w *Writer) Name(n string, squeeze bool) {
	if w == nil {
		return
	}
	switch {
	case !name.Valid(n):
		w.bad = true
	case squeeze:
		w.squeeze(n)
	default:
		w.Bytes([]byte(n)...)
	}
}

// squeeze writes what was not written yet, and a pointer to what was.
func (w *Writer) squeeze(n string) {
	left := strings.Clone(n) // parts of it are kept
	for l := range name.Labels(n) {
		if at, ok := w.places[left]; ok {
			w.Two(pointer<<8 | at)
			return
		}
		w.note(left)
		size := 1 + len(l)
		w.Bytes([]byte(left[:size])...)
		left = left[size:]
	}
	w.Bytes(0)
}

// note keeps the place where what is left of a name is about to begin, if a pointer can hold it.
func (w *Writer) note(left string) {
	if w.size >= mostPlaces {
		return
	}
	if w.places == nil {
		w.places = map[string]int{}
	}
	w.places[left] = w.size
}

// Set writes two bytes over.
func (w *Writer) Set(at, n int) {
	if w == nil || at < 0 || at > len(w.out)-2 {
		return
	}
	w.out[at], w.out[at+1] = byte(n>>8), byte(n)
}

// Len is how many bytes were written.
func (w *Writer) Len() int {
	if w == nil {
		return 0
	}
	return w.size
}

// Out is what was written.
func (w *Writer) Out() ([]byte, api.Errno) {
	if w == nil || w.bad || w.size > w.most {
		return nil, api.ErrBig
	}
	return bytes.Clone(w.out), api.OK
}
