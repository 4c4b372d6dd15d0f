package record

import (
	"freshet/api"
	"freshet/name"
)

// A layout is what data is put together of: so many bytes, so many names, so many bytes.
type layout struct {
	ahead  int
	names  int
	behind int
}

// layoutOf is a type's; false of TXT, which has none, and of what is not Known.
func layoutOf(t int) (layout, bool) {
	switch t {
	case api.A:
		return layout{ahead: 4}, true
	case api.AAAA:
		return layout{ahead: 16}, true
	case api.NS, api.CNAME, api.PTR:
		return layout{names: 1}, true
	case api.MX:
		return layout{ahead: 2, names: 1}, true
	case api.SRV:
		return layout{ahead: 6, names: 1}, true
	case api.SOA:
		return layout{names: 2, behind: 20}, true
	}
	return layout{}, false
}

// Layout is how a type's data begins: so many bytes, and so many names behind them (0 and 0 of TXT, and of what is not Known).
// It stands beside the chapter's calls: package message reads names in data that has pointers yet.
func Layout(t int) (ahead, names int) {
	l, _ := layoutOf(t)
	return l.ahead, l.names
}

// Data tells whether data may be.
func Data(t int, d string) bool {
	if len(d) > api.MaxData {
		return false
	}
	if t == api.TXT {
		return areTexts(d)
	}
	l, ok := layoutOf(t)
	return !ok || l.fits(d)
}

// Names is where names stand in data.
func Names(t int, d string) func(yield func(at, n int) bool) {
	return func(yield func(at, n int) bool) {
		if !Data(t, d) {
			return
		}
		l, _ := layoutOf(t)
		at := l.ahead
		for range l.names {
			n := nameSize(d, at)
			if !yield(at, n) {
				return
			}
			at += n
		}
	}
}

// fits tells whether data is put together so.
func (l layout) fits(d string) bool {
	at := l.ahead
	for range l.names {
		n := nameSize(d, at)
		if n == 0 {
			return false
		}
		at += n
	}
	return at+l.behind == len(d)
}

// nameSize is how many bytes the name has that begins at at; 0, if there is none.
func nameSize(d string, at int) int {
	end := at
	for end < len(d) && d[end] != 0 {
		end += 1 + int(d[end])
	}
	if end >= len(d) || !name.Valid(d[at:end+1]) {
		return 0
	}
	return end + 1 - at
}

// areTexts tells whether data is TXT's: texts, one at least, each behind a byte that says how long it is.
func areTexts(d string) bool {
	at := 0
	for at < len(d) {
		at += 1 + int(d[at])
	}
	return d != "" && at == len(d)
}
