package name

import (
	"strconv"

	"freshet/api"
)

// Text writes one.
func Text(n string) string {
	if n == Root {
		return "."
	}
	var text []byte
	for l := range Labels(n) {
		for i := range len(l) {
			text = appendByte(text, l[i])
		}
		text = append(text, '.')
	}
	return string(text)
}

// appendByte writes a byte of a label.
func appendByte(text []byte, c byte) []byte {
	switch {
	case c == '.' || c == '\\':
		return append(text, '\\', c)
	case !shown(c):
		return append(text, '\\', '0'+c/100, '0'+c/10%10, '0'+c%10)
	}
	return append(text, c)
}

// shown tells whether a byte stands in a text as a sign, not as a number.
func shown(c byte) bool { return 33 <= c && c <= 126 }

// Parse reads one.
func Parse(s string) (string, api.Errno) {
	if s == "." {
		return Root, api.OK
	}
	// No byte of a name is written in more than four: a longer text is not worth being read.
	if s == "" || len(s) > 4*api.MaxName {
		return "", api.ErrBad
	}
	var labels []string
	for s != "" {
		l, size := readLabel(s)
		if size == 0 {
			return "", api.ErrBad
		}
		labels, s = append(labels, l), s[size:]
	}
	return Join(labels...)
}

// readLabel reads a label and its dot: the label, and how long its text is (0 of what is none).
func readLabel(s string) (l string, size int) {
	var read []byte
	at := 0
	for at < len(s) && s[at] != '.' {
		c, step := readByte(s[at:])
		if step == 0 {
			return "", 0
		}
		read, at = append(read, c), at+step
	}
	if at == len(s) {
		return "", 0
	}
	return string(read), at + 1
}

// readByte reads what appendByte writes, and nothing else: a byte, and how long its text is (0 of what is none).
func readByte(s string) (c byte, size int) {
	switch {
	case s[0] != '\\':
		if shown(s[0]) {
			return s[0], 1
		}
	case len(s) > 1 && (s[1] == '.' || s[1] == '\\'):
		return s[1], 2
	case len(s) > 3:
		v, err := strconv.ParseUint(s[1:4], 10, 8)
		if err == nil && !shown(byte(v)) {
			return byte(v), 4
		}
	}
	return 0, 0
}
