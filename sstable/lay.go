package sstable

import (
	"iter"
	"sort"

	"staddle/api"
	"staddle/block"
)

// indexInterval is that of an index: of its keys each is laid whole.
const indexInterval = 1

// tableBytes are the bytes of a table of entries that may be, with their filter.
func tableBytes(l []api.KV, filter []byte, o api.Options) []byte {
	var out []byte
	var index []api.KV
	for some := range groups(l, o) {
		var p place
		out, p = lay(out, blockBytes(some, o.Interval))
		index = append(index, api.KV{Key: some[len(some)-1].Key, Value: p.value()})
	}
	f := foot{count: uint64(len(l))}
	out, f.filter = lay(out, filter)
	out, f.index = lay(out, blockBytes(index, indexInterval))
	return append(out, f.bytes()...)
}

// groups goes through entries, as many at once as a block has.
func groups(l []api.KV, o api.Options) iter.Seq[[]api.KV] {
	return func(yield func([]api.KV) bool) {
		for rest := l; len(rest) > 0; {
			n := fill(rest, o)
			if !yield(rest[:n:n]) {
				return
			}
			rest = rest[n:]
		}
	}
}

// fill is how many entries the block has that begins with the first one.
func fill(l []api.KV, o api.Options) int {
	full := func(n int) bool { return len(blockBytes(l[:n], o.Interval)) >= o.Block }
	// With each entry a block grows, so that halving finds the least that is full; doubling ahead of it keeps a small block from being sought among all entries that are left.
	most := 1
	for most < len(l) && !full(most) {
		most *= 2
	}
	most = min(most, len(l))
	return 1 + sort.Search(most-1, func(i int) bool { return full(1 + i) })
}

// blockBytes are the bytes of a block of entries that may be.
func blockBytes(l []api.KV, interval int) []byte {
	b, _ := block.Build(l, interval)
	return b
}
