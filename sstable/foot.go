package sstable

import (
	"staddle/codec"
)

const (
	ending     = "staddle1" // the text that a table ends with
	numberSize = 4
	footSize   = 5*numberSize + len(ending)
)

// foot is what a table's last bytes tell.
type foot struct {
	filter, index place
	count         uint64 // of entries
}

// bytes are a foot's.
func (f foot) bytes() []byte {
	var out []byte
	for _, n := range []uint64{f.filter.at, f.filter.size, f.index.at, f.index.size, f.count} {
		out = append(out, codec.PutFixed(nil, n, numberSize)...)
	}
	return append(out, ending...)
}

// footOf is the foot that bytes end with, if both places are within them, as Build lays them.
func footOf(b []byte) (f foot, ok bool) {
	at := len(b) - footSize
	if at < 0 || string(b[len(b)-len(ending):]) != ending {
		return foot{}, false
	}
	rest := b[at:]
	number := func() uint64 {
		n, _ := codec.Fixed(rest, numberSize)
		rest = rest[numberSize:]
		return n
	}
	f.filter.at, f.filter.size = number(), number()
	f.index.at, f.index.size = number(), number()
	f.count = number()
	return f, f.filter.end() == f.index.at && f.index.end() == uint64(at)
}
