package block

import (
	"slices"

	"staddle/api"
	"staddle/codec"
	"staddle/ikey"
)

// check is what is wrong with the first entry that may not be.
func check(l []api.KV) api.Errno {
	for i, e := range l {
		if err := ikey.Check(e.Key); err != api.OK {
			return err
		}
		if len(e.Value) > api.MaxValue {
			return api.ErrBatchValue
		}
		if i > 0 && ikey.Compare(l[i-1].Key, e.Key) >= 0 {
			return api.ErrBlockOrder
		}
	}
	return api.OK
}

// stretchBytes are the bytes of entries from a mark on, up to the next one.
func stretchBytes(l []api.KV) []byte {
	var out, ahead []byte
	for _, e := range l {
		key, _ := ikey.Encode(e.Key)
		same := shared(ahead, key)
		// Laid behind nothing, and then added: codec copies all that it lays behind.
		for _, n := range []int{same, len(key) - same, len(e.Value)} {
			out = append(out, codec.PutUvarint(nil, uint64(n))...)
		}
		out = append(out, key[same:]...)
		out = append(out, e.Value...)
		ahead = key
	}
	return out
}

// shared is how many bytes two keys begin with alike.
func shared(a, b []byte) int {
	n := 0
	for n < len(a) && n < len(b) && a[n] == b[n] {
		n++
	}
	return n
}

// entriesOf are the entries that bytes hold from a mark on; more than so many are given up.
func entriesOf(b []byte, most int) []api.KV {
	var l []api.KV
	var ahead []byte
	for len(b) > 0 {
		must(len(l) < most)
		e, key, rest := take(b, ahead)
		l = append(l, e)
		ahead, b = key, rest
	}
	return l
}

// take is the entry that bytes begin with, its key's bytes, of which some may be the ones ahead, and what is behind it.
func take(b, ahead []byte) (e api.KV, key, rest []byte) {
	number := func() uint64 {
		n, k, err := codec.Uvarint(b)
		must(err == api.OK)
		b = b[k:]
		return n
	}
	same, left, size := number(), number(), number()
	must(same <= uint64(len(ahead)))
	// Each by itself ahead of what it is cut from: the sum of two great numbers could wrap round.
	must(left <= uint64(len(b)))
	key = slices.Concat(ahead[:same], b[:left])
	b = b[left:]
	must(size <= uint64(len(b)))
	k, err := ikey.Decode(key)
	must(err == api.OK)
	return api.KV{Key: k, Value: string(b[:size])}, key, b[size:]
}

// must gives up on bytes that are no block's.
func must(holds bool) {
	if !holds {
		panic(api.ErrBlockForm)
	}
}
