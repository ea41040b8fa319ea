package version

import (
	"slices"
	"sort"

	"staddle/api"
)

// file is a file that is held against others of its level.
type file api.File

// newer is whether a file was made behind another: so those of level 0 stand, since the newest is to be asked first.
func (f file) newer(g file) bool {
	return f.Num > g.Num
}

// below is whether all users of a file are ahead of another's: so those of the other levels stand.
func (f file) below(g file) bool {
	return f.Large.User < g.Small.User
}

// has is whether a file has a user from from to to: if no end is ahead of a beginning, the greater one of the two beginnings is such a user.
func (f file) has(from, to string) bool {
	small, large := f.Small.User, f.Large.User
	return small <= large && from <= to && small <= to && from <= large
}

// orderOf is the order in which a level's files stand.
func orderOf(level int) func(f, g file) bool {
	if level == 0 {
		return file.newer
	}
	return file.below
}

// laid are files that may stand in f's level and are the package's own, with f in its place, unless it lies over one of them.
func laid(files []api.File, f api.File) ([]api.File, bool) {
	ahead := orderOf(f.Level)
	place := sort.Search(len(files), func(i int) bool {
		return !ahead(file(files[i]), file(f))
	})
	// The first file that is not ahead of f must be behind it; all others behind are then, too. In level 0 it always is: no two numbers are the same.
	if place < len(files) && !ahead(file(f), file(files[place])) {
		return nil, false
	}
	return slices.Insert(files, place, f), true
}
