// Package name is names: see DOC.md, chapter 1.
package name

import (
	"cmp"
	"slices"
	"strings"

	"freshet/api"
)

// Root is the root's name.
const Root = "\x00"

// mostLabels is how many labels a name has room for: each takes two bytes at least, the end one.
const mostLabels = (api.MaxName - 1) / 2

// Valid tells whether one is a name.
func Valid(n string) bool {
	if len(n) > api.MaxName {
		return false
	}
	at := 0
	for at < len(n) && n[at] != 0 {
		if n[at] > api.MaxLabel {
			return false
		}
		at += 1 + int(n[at])
	}
	return at == len(n)-1
}

// Labels is its labels.
func Labels(n string) func(yield func(string) bool) {
	return func(yield func(string) bool) {
		for at := range places(n) {
			if !yield(strings.Clone(label(n, at))) {
				return
			}
		}
	}
}

// places is where the labels begin; of what is not Valid none.
func places(n string) func(yield func(int) bool) {
	return func(yield func(int) bool) {
		if !Valid(n) {
			return
		}
		for at := 0; n[at] != 0; at += 1 + int(n[at]) {
			if !yield(at) {
				return
			}
		}
	}
}

// label is the bytes of the label that begins at at.
func label(n string, at int) string {
	first := at + 1
	return n[first : first+int(n[at])]
}

// Count is how many.
func Count(n string) int {
	count := 0
	for range places(n) {
		count++
	}
	return count
}

// Fold makes all letters small.
func Fold(n string) string {
	if !Valid(n) {
		return strings.Clone(n)
	}
	// The bytes that say how long a label is can go through it, too: at most MaxLabel, they are below A.
	folded := []byte(n)
	for i, c := range folded {
		folded[i] = small(c)
	}
	return string(folded)
}

// small is a byte folded. (The library's ways to do so read runes, and a label has bytes of any kind.)
func small(c byte) byte {
	if 'A' <= c && c <= 'Z' {
		return c + ('a' - 'A')
	}
	return c
}

// compare orders two by bytes, as they are folded: below 0, 0, above 0.
func compare(a, b string) int {
	for i := range min(len(a), len(b)) {
		if c := cmp.Compare(small(a[i]), small(b[i])); c != 0 {
			return c
		}
	}
	return cmp.Compare(len(a), len(b))
}

// Same compares two.
func Same(a, b string) bool {
	return len(a) == len(b) && Valid(a) && Valid(b) && compare(a, b) == 0
}

// Parent is it without its first label.
func Parent(n string) string {
	parent := Root
	if Count(n) > 0 {
		parent = n[1+int(n[0]):]
	}
	return strings.Clone(parent)
}

// Under tells whether one ends in another.
func Under(n, zone string) bool {
	for at := range places(n) {
		if Same(n[at:], zone) {
			return true
		}
	}
	return Valid(n) && zone == Root
}

// Less orders two.
func Less(a, b string) bool {
	if !Valid(a) || !Valid(b) {
		return false
	}
	// Room of a fixed size keeps the places off the heap: this is what sorts.
	inA := slices.AppendSeq(make([]int, 0, mostLabels), places(a))
	inB := slices.AppendSeq(make([]int, 0, mostLabels), places(b))
	i, k := len(inA), len(inB)
	for i > 0 && k > 0 {
		i, k = i-1, k-1
		if c := compare(label(a, inA[i]), label(b, inB[k])); c != 0 {
			return c < 0
		}
	}
	return i < k
}

// Common is what two end in.
func Common(a, b string) string {
	common := Root
	for at := range places(a) {
		if Under(b, a[at:]) {
			common = a[at:]
			break
		}
	}
	return strings.Clone(common)
}

// Join makes one of labels.
func Join(labels ...string) (string, api.Errno) {
	n := make([]byte, 0, api.MaxName)
	for _, l := range labels {
		// Two bytes more: the one ahead of the label, and the end's.
		if l == "" || len(l) > api.MaxLabel || len(n)+len(l)+2 > api.MaxName {
			return "", api.ErrBad
		}
		n = append(n, byte(len(l)))
		n = append(n, l...)
	}
	return string(append(n, 0)), api.OK
}
