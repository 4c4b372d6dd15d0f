package name_test

import (
	"fmt"
	"strings"
	"testing"

	"freshet/api"
	"freshet/name"
)

func TestText(t *testing.T) {
	for _, c := range []struct{ n, want string }{
		{"\x00", "."},
		{"\x03www\x01a\x00", "www.a."},
		{wire("www Example COM"), "www.Example.COM."},
		{"\x03a.b\x01.\x00", "a\\.b.\\.."},
		{"\x03a\\b\x02\\\\\x00", "a\\\\b.\\\\\\\\."},
		{"\x02\\.\x00", "\\\\\\.."},
		{"\x05 \t\x00\x01\x09\x00", "\\032\\009\\000\\001\\009."},
		{"\x02!~\x00", "!~."},
		{"\x04\x7f\x80\xff\x20\x00", "\\127\\128\\255\\032."},
		{"\x02\xc3\xa4\x00", "\\195\\164."},
		{"\x03-_*\x00", "-_*."},
		{"\x04\"$;@\x00", "\"$;@."},
	} {
		is(t, fmt.Sprintf("P1.2 Text(%q)", c.n), name.Text(c.n), c.want)
	}
	for _, n := range wrong() {
		is(t, fmt.Sprintf("P1.2 Text(%.300q)", n), name.Text(n), "")
	}
}

// written is how a byte of a label stands in a text.
func written(c byte) string {
	switch {
	case c == '.', c == '\\':
		return "\\" + string([]byte{c})
	case c < 33, c > 126:
		return fmt.Sprintf("\\%03d", c)
	}
	return string([]byte{c})
}

func TestEachByte(t *testing.T) {
	for c := range 256 {
		n := string([]byte{3, 'x', byte(c), 'y', 0})
		want := "x" + written(byte(c)) + "y."
		is(t, fmt.Sprintf("P1.2 Text of byte %d", c), name.Text(n), want)
		back, e := name.Parse(want)
		is(t, fmt.Sprintf("P1.2 Parse(%q)", want), back, n)
		is(t, fmt.Sprintf("P1.2 Parse(%q)", want), e, api.OK)
	}
}

// refused holds that there is no name of a text.
func refused(t *testing.T, s string) {
	t.Helper()
	n, e := name.Parse(s)
	is(t, fmt.Sprintf("P1.2 Parse(%.300q)", s), n, "")
	is(t, fmt.Sprintf("P1.2 Parse(%.300q)", s), e, api.ErrBad)
}

func TestParse(t *testing.T) {
	for _, c := range []struct{ s, want string }{
		{".", "\x00"},
		{"a.", wire("a")},
		{"www.A.b.", wire("www A b")},
		{"a\\.b.c.", "\x03a.b\x01c\x00"},
		{"\\..", "\x01.\x00"},
		{"\\\\.", "\x01\\\x00"},
		{"\\000\\032\\127\\255.1.", "\x04\x00 \x7f\xff\x011\x00"},
		{"\\0001.", "\x02\x001\x00"},
	} {
		n, e := name.Parse(c.s)
		is(t, fmt.Sprintf("P1.2 Parse(%q)", c.s), n, c.want)
		is(t, fmt.Sprintf("P1.2 Parse(%q)", c.s), e, api.OK)
	}
	for _, s := range []string{
		"", "a", "www.a", "..", "...", ".a", ".a.", "a..", "a..b.", "a.\\", "\\", "a\\.", "\\.", "\\\\", "\\0", "\\00", "\\000", "\\0.", "\\00.", "\\32.", "\\0 0.", "\\+12.", "\\-12.", "\\0x1.", "\\1_0.", "\\0\\.", "\\03", "\\03.1.",
		" .", "a b.", "a .", " a.", "a. ", "a.\n", "\t.", "\x00.", "\x7f.", "\x80.", "\xff.", "\xc3\xa4.", "\x00", wire("a"),
	} {
		refused(t, s)
	}
}

func TestParseEscapes(t *testing.T) {
	for v := range 1000 {
		s := fmt.Sprintf("\\%03d.", v)
		// What has a sign of its own, or is more than a byte holds, no Text writes as a number.
		if v < 33 || 126 < v && v < 256 {
			is(t, "P1.2 Parse of a number", must(t, s), string([]byte{1, byte(v), 0}))
		} else {
			refused(t, s)
		}
	}
	for c := range 256 {
		if c != '.' && c != '\\' {
			refused(t, "\\"+string([]byte{byte(c)})+".")
			refused(t, "x\\"+string([]byte{byte(c)})+"yz.")
		}
		if c < 33 || c > 126 {
			refused(t, "x"+string([]byte{byte(c)})+"y.")
		}
	}
}

func TestParseLimits(t *testing.T) {
	l63 := strings.Repeat("a", 63) + "."
	is(t, "P1.2 a label of 63", must(t, l63), "\x3f"+l63[:63]+"\x00")
	is(t, "P1.2 255 bytes", must(t, l63+l63+l63+l63[2:]), wire(strings.Repeat(l63[:63]+" ", 3)+l63[2:63]))
	is(t, "P1.2 127 labels", must(t, strings.Repeat("a.", 127)), strings.Repeat("\x01a", 127)+"\x00")
	dots := strings.Repeat("\\.", 63) + "."
	is(t, "P1.2 a label of 63 dots", must(t, dots), "\x3f"+strings.Repeat(".", 63)+"\x00")
	noughts := strings.Repeat("\\000", 63) + "."
	longest := noughts + noughts + noughts + noughts[8:]
	is(t, "P1.2 the longest text", must(t, longest), strings.Repeat("\x3f"+strings.Repeat("\x00", 63), 3)+"\x3d"+strings.Repeat("\x00", 61)+"\x00")
	for _, s := range []string{
		"a" + l63, "x.a" + l63, "\\." + dots, "\\000" + noughts, l63 + l63 + l63 + l63[1:], l63 + l63 + l63 + l63, strings.Repeat("a.", 128), noughts + noughts + noughts + noughts[4:], longest + ".",
		strings.Repeat("a", 256) + ".", strings.Repeat("a", 257) + ".", strings.Repeat("a.", 1<<16), strings.Repeat("a", 1<<20), strings.Repeat("\\", 1<<20), strings.Repeat(".", 1<<20),
	} {
		refused(t, s)
	}
}

// texts is each name whose Text has at most most bytes, of those that Text writes with the signs of signs alone.
func texts(signs string, most int) map[string]string {
	var bytes []byte
	for c := range 256 {
		if strings.Trim(written(byte(c)), signs) == "" {
			bytes = append(bytes, byte(c))
		}
	}
	all := map[string]string{".": "\x00"}
	var grow func(text, done, label string)
	grow = func(text, done, label string) {
		if label != "" && len(text) < most {
			ended := done + string([]byte{byte(len(label))}) + label
			all[text+"."] = ended + "\x00"
			grow(text+".", ended, "")
		}
		for _, c := range bytes {
			if more := text + written(c); len(more) < most {
				grow(more, done, label+string([]byte{c}))
			}
		}
	}
	grow("", "", "")
	return all
}

// TestEachText: of all short texts of these signs, those that are a name's Text are taken, for that name, and no others.
func TestEachText(t *testing.T) {
	const signs, most = "a.\\03", 7
	all, taken := texts(signs, most), 0
	var try func(s string)
	try = func(s string) {
		n, e := name.Parse(s)
		want, there := all[s]
		if (e == api.OK) != there || n != want || !there && e != api.ErrBad {
			t.Errorf("P1.2 Parse(%q): %q, %d; want %q", s, n, e, want)
		}
		if there {
			taken++
			is(t, "P1.2 Text", name.Text(n), s)
		}
		if len(s) < most {
			for i := range len(signs) {
				try(s + signs[i:i+1])
			}
		}
	}
	try("")
	is(t, "P1.2 how many texts there are", taken, len(all))
}

func TestTextAndBack(t *testing.T) {
	for _, n := range append(right(), some(12, 300)...) {
		want := ""
		for _, l := range parts(n) {
			for _, c := range []byte(l) {
				want += written(c)
			}
			want += "."
		}
		if want == "" {
			want = "."
		}
		is(t, fmt.Sprintf("P1.2 Text(%q)", n), name.Text(n), want)
		is(t, "P1.2 Parse of Text", must(t, want), n)
	}
}
