package ikey

import (
	"cmp"

	"staddle/api"
)

// Compare holds two keys against one another: -1, 0, 1.
func Compare(a, b api.IKey) int {
	p := pair{a, b}
	for _, hold := range [...]func() int{p.byUser, p.bySeq, p.byKind} {
		if n := hold(); n != 0 {
			return n
		}
	}
	return 0
}

// Between is a short text that is not less than one, and less than another one.
func Between(a, b string) string {
	d := alike(a, b)
	if d == len(a) || d == len(b) {
		return a
	}
	// As ints, of which 255 and 1 more do not wrap round.
	if int(a[d])+1 < int(b[d]) {
		return raised(a, d)
	}
	return a
}

// Behind is a short text that is not less than one.
func Behind(a string) string {
	for i := range len(a) {
		if a[i] != 255 {
			return raised(a, i)
		}
	}
	return a
}

// pair is two keys that are held against one another.
type pair struct{ a, b api.IKey }

func (p pair) byUser() int { return cmp.Compare(p.a.User, p.b.User) }

// bySeq and byKind ask the other way round: what is newer is wanted first.
func (p pair) bySeq() int { return cmp.Compare(p.b.Seq, p.a.Seq) }

func (p pair) byKind() int { return cmp.Compare(p.b.Kind, p.a.Kind) }

// alike is how many bytes both texts begin with.
func alike(a, b string) int {
	n := min(len(a), len(b))
	for i := range n {
		if a[i] != b[i] {
			return i
		}
	}
	return n
}

// raised is a text up to a byte that is not 255, with 1 more in that one.
func raised(a string, i int) string {
	return string(append([]byte(a[:i]), a[i]+1))
}
