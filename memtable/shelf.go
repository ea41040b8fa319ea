package memtable

import (
	"math/bits"
	"slices"
	"sort"

	"staddle/api"
	"staddle/skip"
)

// shelf is texts in order, in as many lists as they take, since a list has room for so many alone: all of a list are ahead of the next one's, and no list is empty.
type shelf struct {
	lists []*skip.List
}

// put brings a text in that is not there.
func (s *shelf) put(text string, height int) {
	if len(s.lists) == 0 {
		s.lists = []*skip.List{listOf([]string{text})}
		return
	}
	at := s.placeFor(text)
	if lay(s.lists[at], text, height) == api.ErrSkipFull {
		s.part(at)
		lay(s.lists[s.placeFor(text)], text, height)
	}
}

// placeFor is which list a text belongs into, behind all lists' texts into the last.
func (s *shelf) placeFor(text string) int { return min(s.placeOf(text), len(s.lists)-1) }

// placeOf is the first list that has a text that is not less than one, how many lists there are if none has.
func (s *shelf) placeOf(text string) int {
	return sort.Search(len(s.lists), func(i int) bool {
		last, _ := s.lists[i].Last()
		return last >= text
	})
}

// part makes two lists of one, so that both have room.
func (s *shelf) part(at int) {
	texts := s.lists[at].Keys(0)
	half := len(texts) / 2
	s.lists = slices.Replace(s.lists, at, at+1, listOf(texts[:half]), listOf(texts[half:]))
}

// seek is the first text that is not less than one.
func (s *shelf) seek(text string) (string, bool) {
	at := s.placeOf(text)
	if at == len(s.lists) {
		return "", false
	}
	return s.lists[at].Seek(text)
}

// listOf is a list of texts, at most so many as it has room for.
func listOf(texts []string) *skip.List {
	l, _ := skip.New(api.MaxNodes)
	for i, text := range texts {
		lay(l, text, heightOf(i+1))
	}
	return l
}

// lay puts a text into a list, from the first step to the last: nobody else is at it.
func lay(l *skip.List, text string, height int) api.Errno {
	op, err := l.Begin(text, height)
	for done := false; err == api.OK && !done; {
		done, err = l.Step(op)
	}
	return err
}

// heightOf is the height of what comes in as the nth, from 1 on: each level gets half of those of the one beneath.
func heightOf(n int) int { return min(1+bits.TrailingZeros(uint(n)), api.MaxHeight) }
