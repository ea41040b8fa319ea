package sstable

import (
	"bytes"
	"iter"

	"staddle/api"
	"staddle/block"
)

// stored is a block that was not read yet: its part, and its last key, as the index tells it.
type stored struct {
	part []byte
	last api.IKey
}

// storedIn are the blocks that bytes are, one behind the other, if an index tells them so.
func storedIn(b, index []byte) (blocks []stored, ok bool) {
	x, err := block.Open(index)
	if err != api.OK || x.Len() == 0 {
		return nil, false
	}
	told := entriesOf(x)
	// A block does not tell its interval, but with another one its bytes would be others.
	if !bytes.Equal(blockBytes(told, indexInterval), index) {
		return nil, false
	}
	at, end := uint64(0), uint64(len(b))
	for _, e := range told {
		p, ok := placeOf(e.Value)
		// The size by itself first: with a very great one the end would wrap round.
		if !ok || p.at != at || p.size > end || p.end() > end {
			return nil, false
		}
		blocks = append(blocks, stored{p.part(b), e.Key})
		at = p.end()
	}
	return blocks, at == end
}

// read goes through a table's blocks, each as it is read, or with why it can't be.
func (t *Table) read() iter.Seq2[*block.Block, api.Errno] {
	return func(yield func(*block.Block, api.Errno) bool) {
		for _, s := range t.blocks {
			if !yield(s.read()) {
				return
			}
		}
	}
}

// read is a block that has entries.
func (s stored) read() (*block.Block, api.Errno) {
	body, ok := bodyOf(s.part)
	if !ok {
		return nil, api.ErrTableSum
	}
	x, err := block.Open(body)
	if err != api.OK {
		return nil, api.ErrTableForm
	}
	last, err := x.At(x.Len() - 1)
	if err != api.OK || last.Key != s.last {
		return nil, api.ErrTableForm
	}
	return x, api.OK
}

// entriesOf are a block's entries.
func entriesOf(x *block.Block) []api.KV {
	l := make([]api.KV, x.Len())
	for i := range l {
		l[i], _ = x.At(i)
	}
	return l
}
