package block

import (
	"bytes"
	"slices"

	"staddle/api"
	"staddle/codec"
)

// parted is the block whose parts stand where bytes tell; its entries are not looked at.
func parted(b []byte) *Block {
	rest, count := cutNumber(b, countSize)
	rest, interval := cutNumber(rest, intervalSize)
	must(mayBe(int(interval)))
	// Asked ahead of making room for them: a count may say far more marks than there are bytes for.
	must(count <= uint64(len(rest)/placeSize))
	places := len(rest) - int(count)*placeSize
	body := bytes.Clone(rest[:places])
	return &Block{stretches: stretchesOf(body, rest[places:]), interval: int(interval)}
}

// cutNumber is bytes without their last ones, and the number that these are.
func cutNumber(b []byte, size int) (rest []byte, n uint64) {
	must(len(b) >= size)
	at := len(b) - size
	n, _ = codec.Fixed(b[at:], size)
	return b[:at], n
}

// stretchesOf are bytes, cut at the places of marks.
func stretchesOf(body, places []byte) [][]byte {
	all := make([][]byte, len(places)/placeSize)
	// From the last one on: each then reaches up to where the one behind it was cut off.
	for m := len(all) - 1; m >= 0; m-- {
		var place uint64
		places, place = cutNumber(places, placeSize)
		must(place <= uint64(len(body)))
		body, all[m] = body[:place], body[place:]
	}
	must(len(body) == 0)
	return all
}

// counted is how many entries a block has, if Build would lay them just as they stand.
func (b *Block) counted() int {
	n := 0
	var ahead []api.KV // the last entry ahead of a mark, behind which the mark's is to rise
	for m, stretch := range b.stretches {
		l := b.entries(m)
		full := len(l) == b.interval
		must(full || len(l) > 0 && m == len(b.stretches)-1)
		must(check(slices.Concat(ahead, l)) == api.OK)
		must(bytes.Equal(stretchBytes(l), stretch))
		n += len(l)
		ahead = l[len(l)-1:]
	}
	return n
}
