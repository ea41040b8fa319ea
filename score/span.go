package score

import (
	"slices"
	"strings"

	"staddle/api"
)

// span is all users from from to to.
type span struct {
	from, to string
}

// spanOf is what a file has.
func spanOf(f api.File) span {
	return span{f.Small.User, f.Large.User}
}

// hasUsers is whether there is a user in it.
func (s span) hasUsers() bool {
	return s.from <= s.to
}

// reach is what the one of the files that has the users first has between it and all files to which it leads: those that share a user with what is taken so far, again and again. By their beginnings such files stand beside one another, so that one look at each will do, however they lead to one another.
func reach(files []api.File, first span) span {
	spans := rising(files)
	between, found := spans[0], false
sweep:
	for _, s := range spans {
		switch {
		case s.from <= between.to:
			between.to = max(between.to, s.to)
		case found:
			break sweep
		default:
			between = s
		}
		found = found || s == first
	}
	return between
}

// rising are the spans of the files that have users, by their beginnings.
func rising(files []api.File) []span {
	var out []span
	for _, f := range files {
		if s := spanOf(f); s.hasUsers() {
			out = append(out, s)
		}
	}
	slices.SortFunc(out, func(s, t span) int {
		return strings.Compare(s.from, t.from)
	})
	return out
}
