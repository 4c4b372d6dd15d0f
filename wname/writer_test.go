package wname_test

import (
	"fmt"
	"math"
	"math/rand"
	"slices"
	"strings"
	"testing"
	"unsafe"

	"freshet/api"
	"freshet/wname"
)

func TestNumbers(t *testing.T) {
	for _, n := range numbers() {
		w := wname.New(100)
		w.Two(n)
		is(t, fmt.Sprintf("P2.2 Two(%d)", n), written(t, w), lowest(n, 2))
		is(t, fmt.Sprintf("P2.2 Len behind Two(%d)", n), w.Len(), 2)
		w.Four(n)
		is(t, fmt.Sprintf("P2.2 Four(%d)", n), written(t, w), lowest(n, 2)+lowest(n, 4))
		is(t, fmt.Sprintf("P2.2 Len behind Four(%d)", n), w.Len(), 6)
		w.Set(1, n)
		is(t, fmt.Sprintf("P2.2 Set(1, %d)", n), written(t, w), lowest(n, 2)[:1]+lowest(n, 2)+lowest(n, 4)[1:])
	}
	w := wname.New(100)
	w.Two(0x0102)
	w.Four(0x03040506)
	is(t, "P2.2 the highest first", written(t, w), "\x01\x02\x03\x04\x05\x06")
}

func TestBytes(t *testing.T) {
	w := wname.New(100)
	is(t, "P2.2 New", written(t, w), "")
	is(t, "P2.2 Len of nothing", w.Len(), 0)
	w.Bytes()
	w.Bytes(nil...)
	is(t, "P2.2 Bytes of none", written(t, w), "")
	w.Bytes(9)
	w.Bytes(0, 255, 192)
	is(t, "P2.2 Bytes", written(t, w), "\x09\x00\xff\xc0")
	is(t, "P2.2 Len", w.Len(), 4)
	all := make([]byte, 256)
	for i := range all {
		all[i] = byte(i)
	}
	w = wname.New(256)
	w.Bytes(all...)
	is(t, "P2.2 Bytes", written(t, w), string(all))
}

func TestSet(t *testing.T) {
	for size := range 5 {
		for _, at := range []int{-2, -1, 0, 1, 2, 3, 4, 5, 98, 99, 100, math.MaxInt, math.MaxInt - 1, math.MinInt, math.MinInt + 1} {
			w := wname.New(100)
			w.Bytes([]byte("abcd")[:size]...)
			w.Set(at, 0x5859)
			want := []byte("abcd")[:size]
			if 0 <= at && at < 4 && at+2 <= size {
				copy(want[at:], "XY")
			}
			is(t, fmt.Sprintf("P2.2 Set(%d, ..) of %d bytes", at, size), written(t, w), string(want))
			is(t, fmt.Sprintf("P2.2 Len behind Set(%d, ..) of %d bytes", at, size), w.Len(), size)
		}
	}
	// A name stays one that was written, whatever is set over it.
	w := wname.New(100)
	w.Name(wire("a b"), true)
	w.Set(2, 0)
	w.Name(wire("b"), true)
	is(t, "P2.2 Set over a name", written(t, w), "\x01a\x00\x00\x00\xc0\x02")
}

func TestMost(t *testing.T) {
	for most := -2; most <= 12; most++ {
		for size := range 12 {
			w := wname.New(most)
			w.Bytes(make([]byte, size)...)
			what := fmt.Sprintf("P2.2 %d bytes of %d", size, most)
			if size <= most {
				is(t, what, written(t, w), strings.Repeat("\x00", size))
			} else {
				tooBig(t, what, w)
			}
			is(t, what, w.Len(), size)
		}
	}
	tooBig(t, "P2.2 New of the least number", wname.New(math.MinInt))
	w := wname.New(math.MaxInt)
	w.Bytes(1)
	is(t, "P2.2 New of the greatest number", written(t, w), "\x01")
}

// Once there is too much, it is too much for good; what is written is written, and counts.
func TestMuch(t *testing.T) {
	w := wname.New(5)
	w.Name(wire("a b"), true)
	is(t, "P2.2 as many as may be", written(t, w), "\x01a\x01b\x00")
	w.Bytes(9)
	for range 2 {
		tooBig(t, "P2.2 one more", w)
	}
	is(t, "P2.2 Len of more", w.Len(), 6)
	w.Set(0, 1)
	w.Set(4, 1)
	w.Set(5, 1)
	w.Name(wire("c b"), true)
	is(t, "P2.2 Len of more", w.Len(), 10)
	w.Name(wire("c b"), true)
	w.Two(1)
	w.Four(1)
	w.Bytes()
	is(t, "P2.2 Len of more", w.Len(), 18)
	tooBig(t, "P2.2 more", w)
	for what, write := range map[string]func(w *wname.Writer){
		"Two":              func(w *wname.Writer) { w.Two(0) },
		"Four":             func(w *wname.Writer) { w.Four(0) },
		"Name":             func(w *wname.Writer) { w.Name("\x00", false) },
		"Name, squeezed":   func(w *wname.Writer) { w.Name("\x00", true) },
		"Name's pointer":   func(w *wname.Writer) { w.Name(wire("b"), true) },
		"Name, cut within": func(w *wname.Writer) { w.Name(wire("x b"), true) },
		"Name, not Valid":  func(w *wname.Writer) { w.Name("", true) },
	} {
		w := wname.New(5)
		w.Name(wire("a b"), true)
		write(w)
		tooBig(t, "P2.2 too much by "+what, w)
	}
}

func TestName(t *testing.T) {
	w := wname.New(100)
	w.Name(wire("www a"), true)
	w.Name(wire("a"), true)
	is(t, "P2.2 www.a. and a.", written(t, w), "\x03www\x01a\x00\xc0\x04")
	for _, c := range []struct{ names, want string }{
		{"www.a www.a", "\x03www\x01a\x00\xc0\x00"},
		{"a www.a www.a", "\x01a\x00\x03www\xc0\x00\xc0\x03"},
		{"a x.a y.x.a y.x.a a", "\x01a\x00\x01x\xc0\x00\x01y\xc0\x03\xc0\x07\xc0\x00"},
		{"a.b A.b a.B a.b A.B a.B", "\x01a\x01b\x00\x01A\xc0\x02\x01a\x01B\x00\xc0\x00\x01A\xc0\x0b\xc0\x09"},
		{"a.b a", "\x01a\x01b\x00\x01a\x00"}, // what is ahead of a name is none
		{"a.a a a.a a.a.a", "\x01a\x01a\x00\xc0\x02\xc0\x00\x01a\xc0\x00"},
		{"a.a.a a", "\x01a\x01a\x01a\x00\xc0\x04"},
		{"ab b", "\x02ab\x00\x01b\x00"},
		{"b ab", "\x01b\x00\x02ab\x00"},
		{". . a .", "\x00\x00\x01a\x00\x00"},
		// Without squeeze: neither a pointer, nor to be pointed to.
		{"-a.b -a.b", "\x01a\x01b\x00\x01a\x01b\x00"},
		{"a.b -a.b", "\x01a\x01b\x00\x01a\x01b\x00"},
		{"-a.b a.b", "\x01a\x01b\x00\x01a\x01b\x00"},
		{"-a.b a.b a.b b", "\x01a\x01b\x00\x01a\x01b\x00\xc0\x05\xc0\x07"},
		{"a.b -a.b a.b b -.", "\x01a\x01b\x00\x01a\x01b\x00\xc0\x00\xc0\x02\x00"},
		{"-b x.b", "\x01b\x00\x01x\x01b\x00"},
	} {
		w := wname.New(100)
		for _, n := range strings.Fields(c.names) {
			plain, squeeze := strings.CutPrefix(n, "-")
			w.Name(wire(strings.ReplaceAll(plain, ".", " ")), !squeeze)
		}
		is(t, "P2.2 Name: "+c.names, written(t, w), c.want)
		is(t, "P2.2 Len: "+c.names, w.Len(), len(c.want))
	}
	// Bytes that look like a name are none.
	w = wname.New(100)
	w.Bytes([]byte(wire("a b"))...)
	w.Name(wire("a b"), true)
	is(t, "P2.2 Name behind Bytes", written(t, w), "\x01a\x01b\x00\x01a\x01b\x00")
	// Of a label's bytes that look like labels, too.
	w = wname.New(100)
	w.Name("\x05\x01a\x01b\x00\x00", true)
	w.Name("\x01a\x01b\x00", true)
	w.Name("\x01b\x00\x00"[:3], true)
	is(t, "P2.2 Name behind a label like one", written(t, w), "\x05\x01a\x01b\x00\x00\x01a\x01b\x00\xc0\x09")
}

func TestNameLong(t *testing.T) {
	long, most := longest(), strings.Repeat("\x01a", 127)+"\x00"
	w := wname.New(1000)
	w.Name(long, true)
	w.Name(long[64:], true)
	w.Name(long, false)
	w.Name("\x3f"+strings.Repeat("x", 63)+long[64:], true)
	is(t, "P2.2 Name of 255 bytes", written(t, w), long+"\xc0\x40"+long+"\x3f"+strings.Repeat("x", 63)+"\xc0\x40")
	w = wname.New(1000)
	w.Name(most, true)
	for at := 0; at < 254; at += 2 {
		w.Name(most[at:], true)
	}
	want := most
	for at := 0; at < 254; at += 2 {
		want += "\xc0" + string([]byte{byte(at)})
	}
	is(t, "P2.2 Name of 127 labels", written(t, w), want)
}

func TestNameFar(t *testing.T) {
	for at := 16376; at <= 16388; at++ {
		w := wname.New(20000)
		w.Bytes(make([]byte, at)...)
		for range 2 {
			w.Name(wire("p q"), true)
		}
		w.Name(wire("q"), true)
		w.Name(wire("p q"), true)
		what := fmt.Sprintf("P2.2 Name at %d", at)
		whole, end := wire("p q"), wire("q")
		first := string([]byte{0xc0 | byte(at>>8), byte(at)})
		second := string([]byte{0xc0 | byte((at+2)>>8), byte(at + 2)})
		switch {
		case at+2 < 16384:
			is(t, what, written(t, w)[at:], whole+first+second+first)
		case at < 16384:
			is(t, what, written(t, w)[at:], whole+first+end+first)
		default:
			is(t, what, written(t, w)[at:], whole+whole+end+whole)
		}
	}
	// From far behind a pointer may go to what is ahead all the same; to the last place, too.
	w := wname.New(1 << 17)
	w.Bytes(make([]byte, 16379)...)
	w.Name(wire("x p q"), true)
	w.Bytes(make([]byte, 1<<16)...)
	at := w.Len()
	w.Name(wire("y p q"), true)
	w.Name(wire("q"), true)
	w.Name(wire("y p q"), true)
	is(t, "P2.2 Name from far", written(t, w)[at:], "\x01y\xff\xfd\xff\xff\x01y\xff\xfd")
}

func TestNameWrong(t *testing.T) {
	for _, n := range wrong() {
		for _, squeeze := range []bool{false, true} {
			w := wname.New(1 << 20)
			w.Bytes(1, 2)
			w.Name(n, squeeze)
			what := fmt.Sprintf("P2.2 Name(%.40q, %v)", n, squeeze)
			is(t, what, w.Len(), 2)
			tooBig(t, what, w)
			w.Name(wire("a"), squeeze)
			w.Set(0, 0)
			is(t, what, w.Len(), 5)
			tooBig(t, what, w)
		}
	}
	// Its end is none that was written.
	w := wname.New(1000)
	w.Name("\x01e"+longest(), true)
	w.Name(longest(), true)
	is(t, "P2.2 Len behind what is not Valid", w.Len(), 255)
}

func TestNil(t *testing.T) {
	var w *wname.Writer
	w.Bytes(1)
	w.Bytes()
	w.Two(1)
	w.Four(1)
	w.Name(wire("a"), true)
	w.Name(wire("a"), false)
	w.Name("x", true)
	w.Set(0, 1)
	w.Set(-1, 1)
	is(t, "P2.3 Len of nil", w.Len(), 0)
	tooBig(t, "P2.3 Out of nil", w)
	// One that New did not make has room for nothing.
	none := new(wname.Writer)
	is(t, "P2.2 Out of a bare one", written(t, none), "")
	none.Name(wire("a"), true)
	none.Name(wire("a"), true)
	is(t, "P2.2 Len of a bare one", none.Len(), 5)
	tooBig(t, "P2.2 Out of a bare one", none)
}

func TestWriterMemory(t *testing.T) {
	w := wname.New(100)
	given := append(make([]byte, 0, 10), 1, 2)
	w.Bytes(given...)
	w.Two(0x0304)
	is(t, "P2.3 spare room of what is handed in", string(given[:10]), "\x01\x02"+strings.Repeat("\x00", 8))
	clear(given)
	first := []byte(written(t, w))
	is(t, "P2.3 what was handed in is not kept", string(first), "\x01\x02\x03\x04")
	out, _ := w.Out()
	again, _ := w.Out()
	clear(out)
	_ = append(out, 9, 9, 9)
	is(t, "P2.3 what is answered is new", string(again), "\x01\x02\x03\x04")
	w.Bytes(5)
	w.Set(0, 0)
	is(t, "P2.3 what was answered stays", string(again), "\x01\x02\x03\x04")
	is(t, "P2.3 what was answered, its spare room", string(append(again, 7)), "\x01\x02\x03\x04\x07")
	is(t, "P2.3 what is written", written(t, w), "\x00\x00\x03\x04\x05")
	// A name, too, is not kept.
	b := []byte(wire("a b"))
	w.Name(unsafe.String(&b[0], len(b)), true)
	copy(b, wire("c d"))
	w.Name(wire("a b"), true)
	w.Name(wire("c d"), true)
	w.Name(wire("b"), true)
	is(t, "P2.3 a name that was handed in is not kept", written(t, w)[5:], "\x01a\x01b\x00\xc0\x05\x01c\x01d\x00\xc0\x07")
	// Two have nothing in common.
	one, two := wname.New(100), wname.New(100)
	one.Name(wire("a b"), true)
	two.Name(wire("b"), true)
	one.Name(wire("b"), true)
	is(t, "P2.3 one", written(t, one), "\x01a\x01b\x00\xc0\x02")
	is(t, "P2.3 the other", written(t, two), "\x01b\x00")
}

// A model is a Writer told once more: all that was written as a name stands in a list, the first one ahead.
type model struct {
	out    []byte
	bad    bool
	begun  []string
	places []int
}

// name is Name of what is Valid.
func (m *model) name(n string, squeeze bool) {
	for left := n; ; left = left[1+int(left[0]):] {
		if left == "\x00" {
			m.out = append(m.out, 0)
			return
		}
		if squeeze {
			for i, x := range m.begun {
				if x == left && m.places[i] < 16384 {
					m.out = append(m.out, 192+byte(m.places[i]/256), byte(m.places[i]%256))
					return
				}
			}
			m.begun, m.places = append(m.begun, left), append(m.places, len(m.out))
		}
		m.out = append(m.out, left[:1+int(left[0])]...)
	}
}

// set is Set.
func (m *model) set(at, n int) {
	if at >= 0 && at+1 < len(m.out) {
		copy(m.out[at:], lowest(n, 2))
	}
}

// step does the same to a Writer and a model, by chance.
func step(r *rand.Rand, w *wname.Writer, m *model) {
	switch r.Intn(12) {
	case 0:
		b := make([]byte, r.Intn(4))
		r.Read(b)
		w.Bytes(b...)
		m.out = append(m.out, b...)
	case 1:
		n := r.Int() - r.Int()
		w.Two(n)
		m.out = append(m.out, lowest(n, 2)...)
	case 2:
		n := r.Int() - r.Int()
		w.Four(n)
		m.out = append(m.out, lowest(n, 4)...)
	case 3:
		at, n := r.Intn(len(m.out)+6)-3, r.Int()-r.Int()
		w.Set(at, n)
		m.set(at, n)
	case 4:
		if r.Intn(30) == 0 {
			w.Name(wrong()[r.Intn(len(wrong()))], r.Intn(2) == 0)
			m.bad = true
		}
	default:
		n, squeeze := some(r), r.Intn(4) > 0
		w.Name(n, squeeze)
		m.name(n, squeeze)
	}
}

func TestWriterByChance(t *testing.T) {
	r := rand.New(rand.NewSource(2))
	for range 3000 {
		most := r.Intn(200)
		w, m := wname.New(most), &model{}
		if r.Intn(5) == 0 {
			fill := make([]byte, 16384-r.Intn(100))
			most += len(fill)
			w = wname.New(most)
			w.Bytes(fill...)
			m.out = append(m.out, fill...)
		}
		for range r.Intn(40) {
			step(r, w, m)
			want, code := string(m.out), api.OK
			if m.bad || len(m.out) > most {
				want, code = "", api.ErrBig
			}
			b, e := w.Out()
			if string(b) != want || e != code || w.Len() != len(m.out) {
				t.Fatalf("P2.2 by chance:\n got %q %d %d\nwant %q %d %d", b, e, w.Len(), want, code, len(m.out))
			}
		}
	}
}

func TestGetFindsWhatNameWrote(t *testing.T) {
	r := rand.New(rand.NewSource(3))
	for range 500 {
		w := wname.New(1 << 15)
		w.Bytes(make([]byte, []int{0, 12, 16300, 16384, 20000}[r.Intn(5)])...)
		type piece struct {
			at, next int
			n        string
		}
		var pieces []piece
		for range 40 {
			p := piece{at: w.Len(), n: some(r)}
			w.Name(p.n, r.Intn(3) > 0)
			p.next = w.Len()
			pieces = append(pieces, p)
			if r.Intn(5) == 0 {
				w.Four(r.Int())
			}
		}
		b, _ := w.Out()
		for _, p := range slices.Backward(pieces) {
			found(t, fmt.Sprintf("P2.3 Get at %d", p.at), b, p.at, p.n, p.next)
		}
	}
}
