package edit

import (
	"staddle/api"
	"staddle/codec"
	"staddle/ikey"
)

// taken is the edit that bytes begin with; whether it may be, and was laid so, is not asked.
func taken(b []byte) api.Edit {
	t := &taker{left: b}
	number := t.number
	x := api.Edit{Log: number(), Next: number(), Last: number()}
	for range count(number, api.MaxDels) {
		x.Dels = append(x.Dels, gone(number))
	}
	for range count(number, api.MaxFiles) {
		place := gone(number)
		x.Adds = append(x.Adds, api.File{Level: place.Level, Num: place.Num, Size: int(number()), Small: t.key(), Large: t.key()})
	}
	return x
}

// count takes how many there are of something; above the limit it gives up at once, ahead of all the bytes that so many could have.
func count(number func() uint64, limit uint64) uint64 {
	n := number()
	must(n <= limit)
	return n
}

// gone takes a file's level and number.
func gone(number func() uint64) api.Gone {
	return api.Gone{Level: int(number()), Num: number()}
}

// taker has the bytes that are left of those that are read.
type taker struct{ left []byte }

// number takes a number.
func (t *taker) number() uint64 {
	n, k, err := codec.Uvarint(t.left)
	must(err == api.OK)
	t.left = t.left[k:]
	return n
}

// key takes a key.
func (t *taker) key() api.IKey {
	s, n, err := codec.Text(t.left)
	must(err == api.OK)
	t.left = t.left[n:]
	k, err := ikey.Decode([]byte(s))
	must(err == api.OK)
	return k
}

// must gives up, if something does not hold.
func must(holds bool) {
	if !holds {
		panic(api.ErrEditForm)
	}
}
