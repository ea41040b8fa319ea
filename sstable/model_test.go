package sstable_test

import (
	"encoding/binary"
	"math/rand"
	"slices"
	"sort"
	"strings"
	"testing"

	"staddle/api"
	"staddle/block"
	"staddle/bloom"
	"staddle/sstable"
)

// plain is a table that is read as the document tells it, each thing by itself.
type plain struct {
	filter []byte
	blocks [][]byte // with their sums
	lasts  []api.IKey
	count  int
}

// summed tells whether a part ends with its sum.
func summed(part []byte) bool {
	n := len(part) - 4
	return string(sumBytes(part[:n])) == string(part[n:])
}

// entriesOf are the entries of bytes that are a block.
func entriesOf(b []byte) (l []api.KV, ok bool) {
	x, err := block.Open(b)
	if err != api.OK {
		return nil, false
	}
	for i := range x.Len() {
		e, _ := x.At(i)
		l = append(l, e)
	}
	return l, true
}

// openPlainly reads bytes as P12.2 tells.
func openPlainly(b []byte) (p plain, err api.Errno) {
	if len(b) < 28 || !strings.HasSuffix(string(b), "staddle1") {
		return p, api.ErrTableForm
	}
	filterAt, filterSize, indexAt, indexSize := int(numberOf(b, 0)), int(numberOf(b, 1)), int(numberOf(b, 2)), int(numberOf(b, 3))
	if filterAt+filterSize+4 != indexAt || indexAt+indexSize+4+28 != len(b) {
		return p, api.ErrTableForm
	}
	if !summed(b[filterAt:indexAt]) || !summed(b[indexAt:len(b)-28]) {
		return p, api.ErrTableSum
	}
	index := b[indexAt : indexAt+indexSize]
	l, ok := entriesOf(index)
	if !ok || len(l) == 0 || index[indexSize-5] != 1 {
		return p, api.ErrTableForm
	}
	at := 0
	for _, e := range l {
		p.lasts = append(p.lasts, e.Key)
		_, k := binary.Uvarint([]byte(e.Value))
		size, _ := binary.Uvarint([]byte(e.Value)[max(0, k):])
		if size > uint64(filterAt) || e.Value != placeText(at, int(size)) || at+int(size)+4 > filterAt {
			return p, api.ErrTableForm
		}
		p.blocks = append(p.blocks, b[at:at+int(size)+4])
		at += int(size) + 4
	}
	if at != filterAt {
		return p, api.ErrTableForm
	}
	p.filter, p.count = b[filterAt:indexAt-4], int(numberOf(b, 4))
	return p, api.OK
}

// read is a block as P12.3 tells.
func (p plain) read(i int) ([]api.KV, api.Errno) {
	part := p.blocks[i]
	if !summed(part) {
		return nil, api.ErrTableSum
	}
	l, ok := entriesOf(part[:len(part)-4])
	if !ok || len(l) == 0 || l[len(l)-1].Key != p.lasts[i] {
		return nil, api.ErrTableForm
	}
	return l, api.OK
}

// all are all entries as P12.4 tells.
func (p plain) all() ([]api.KV, api.Errno) {
	var all []api.KV
	for i := range p.blocks {
		l, err := p.read(i)
		if err != api.OK {
			return nil, err
		}
		if i > 0 && !ahead(p.lasts[i-1], l[0].Key) {
			return nil, api.ErrTableForm
		}
		all = append(all, l...)
	}
	if len(all) != p.count {
		return nil, api.ErrTableForm
	}
	return all, api.OK
}

// get is what is known as P12.5 tells.
func (p plain) get(user string, seq uint64) (string, int, api.Errno) {
	if !bloom.May(p.filter, user) {
		return "", api.None, api.OK
	}
	k := api.IKey{User: user, Seq: min(seq, topSeq), Kind: api.Put}
	for i, last := range p.lasts {
		if ahead(last, k) {
			continue
		}
		l, err := p.read(i)
		for _, e := range l {
			if ahead(e.Key, k) {
				continue
			}
			switch {
			case e.Key.User != user:
				return "", api.None, api.OK
			case e.Key.Kind == api.Delete:
				return "", api.Deleted, api.OK
			}
			return e.Value, api.There, api.OK
		}
		return "", api.None, err
	}
	return "", api.None, api.OK
}

// ahead tells whether a key stands ahead of another one.
func ahead(a, b api.IKey) bool {
	if a.User != b.User {
		return a.User < b.User
	}
	if a.Seq != b.Seq {
		return a.Seq > b.Seq
	}
	return a.Kind > b.Kind
}

// asRead tells a fault if bytes are read otherwise than the document says; and whether they are a table all of which is right.
func asRead(t testing.TB, b []byte, users []string) bool {
	t.Helper()
	p, want := openPlainly(b)
	if want != api.OK {
		closed(t, "no table", b, want)
		return false
	}
	x := opens(t, b)
	if n := x.Blocks(); n != len(p.blocks) {
		t.Fatalf("Blocks is %d, not %d", n, len(p.blocks))
	}
	for _, user := range users {
		for _, seq := range []uint64{0, 1, 2, 3, topSeq + 1} {
			value, what, err := p.get(user, seq)
			if v, w, e := x.Get(user, seq); v != value || w != what || e != err {
				t.Fatalf("Get(%q, %d): %q, %d, %d, not %q, %d, %d", user, seq, v, w, e, value, what, err)
			}
		}
	}
	l, err := p.all()
	if err != api.OK {
		broken(t, "as the document says", x, err)
		return false
	}
	holds(t, x, l)
	return true
}

// userByChance is a user of few kinds of bytes, so that many are alike.
func userByChance(r *rand.Rand) string {
	b := make([]byte, r.Intn(1+r.Intn(6)))
	if r.Intn(20) == 0 {
		b = make([]byte, 60+r.Intn(5))
	}
	for i := range b {
		b[i] = []byte{0, 'a', 'b', 0xff}[r.Intn(4)]
	}
	return string(b)
}

// entriesByChance are entries that rise.
func entriesByChance(r *rand.Rand, most int) []api.KV {
	l := make([]api.KV, 1+r.Intn(1+r.Intn(most)))
	for i := range l {
		l[i] = put(userByChance(r), uint64(r.Intn(4)), text(r.Intn(1+r.Intn(1+r.Intn(1000)))))
		if r.Intn(9) == 0 {
			l[i].Key.Seq = r.Uint64() >> (8 + r.Intn(56))
		}
		if r.Intn(3) == 0 {
			l[i].Key.Kind = api.Delete
		}
	}
	return risen(l)
}

// risen are entries put in order, of each key one.
func risen(l []api.KV) []api.KV {
	sort.Slice(l, func(i, k int) bool { return ahead(l[i].Key, l[k].Key) })
	return slices.CompactFunc(l, func(a, b api.KV) bool { return a.Key == b.Key })
}

// optionsByChance are options that may be.
func optionsByChance(r *rand.Rand) api.Options {
	return api.Options{Block: 1 + r.Intn(1+r.Intn(1+r.Intn(65536))), Interval: 1 + r.Intn(16), Bits: 50 * (1 - r.Float64())}
}

// usersByChance are users of entries, and others.
func usersByChance(r *rand.Rand, l []api.KV) []string {
	users := []string{"", userByChance(r), userByChance(r)}
	for range 6 {
		users = append(users, l[r.Intn(len(l))].Key.User)
	}
	return users
}

// P12.1 to P12.6: entries and options by chance are laid as the document tells, read, and asked.
func TestByChance(t *testing.T) {
	r := rand.New(rand.NewSource(12))
	for range 1000 {
		l, o := entriesByChance(r, 80), optionsByChance(r)
		both(t, l, o)
		b := builds(t, l, o)
		users := usersByChance(r, l)
		if !asRead(t, b, users) {
			t.Fatalf("the plain reading refuses % x", b)
		}
		x := opens(t, b)
		for _, user := range users {
			for _, seq := range []uint64{0, 1, 2, 3, r.Uint64() >> r.Intn(64)} {
				value, what := known(l, user, seq)
				gets(t, x, user, seq, value, what)
			}
		}
	}
}

// P12.2 to P12.5: tables of which a few bytes are changed by chance.
func TestBytesByChance(t *testing.T) {
	r := rand.New(rand.NewSource(13))
	right := 0
	for range 8000 {
		l := entriesByChance(r, 12)
		b := laid(l, optionsByChance(r)).bytes()
		for range r.Intn(3) {
			i := r.Intn(len(b))
			if r.Intn(2) == 0 {
				i = len(b) - 1 - r.Intn(28)
			}
			b[i] = []byte{0, 1, b[i] + 1, b[i] - 1, byte(r.Intn(256))}[r.Intn(5)]
		}
		if asRead(t, b, usersByChance(r, l)) {
			right++
		}
	}
	if right < 1600 || right > 6400 {
		t.Errorf("%d tables were right", right)
	}
}

// changed is a table with one thing that is another by chance, but right sums.
func changed(r *rand.Rand, m made) []byte {
	i := r.Intn(len(m.blocks))
	index := blockOf(m.index, 1)
	switch r.Intn(8) {
	case 0:
		m.index[i].Value = placeText(r.Intn(100), r.Intn(100))
	case 1:
		m.index[i].Key = put(userByChance(r), uint64(r.Intn(4)), "").Key
		m.index = risen(m.index)
	case 2:
		m.interval = 1 + r.Intn(16)
	case 3:
		m.count += r.Intn(3) - 1
	case 4:
		index[r.Intn(len(index))] += byte(1 + r.Intn(3))
		return m.withIndex(index)
	case 5:
		k := r.Intn(len(m.blocks[i]))
		m.blocks[i][k] ^= 1 << r.Intn(8)
	case 6:
		l, _ := entriesOf(m.blocks[i])
		l[r.Intn(len(l))].Key = put(userByChance(r), uint64(r.Intn(4)), "").Key
		m = withBlock(m, i, blockOf(risen(l), 1+r.Intn(16)))
	case 7:
		m.filter = m.filter[:r.Intn(len(m.filter)+1)]
	}
	return m.bytes()
}

// P12.2 to P12.5: tables that are wrong by chance in one thing or two, with sums that are right.
func TestWrongByChance(t *testing.T) {
	r := rand.New(rand.NewSource(14))
	right := 0
	for range 15000 {
		l := entriesByChance(r, 20)
		b := changed(r, laid(l, api.Options{Block: 1 + r.Intn(100), Interval: 1 + r.Intn(16), Bits: 10}))
		if r.Intn(8) == 0 {
			b[r.Intn(len(b))] ^= 1 << r.Intn(8)
		}
		if asRead(t, b, usersByChance(r, l)) {
			right++
		}
	}
	if right < 1500 || right > 13500 {
		t.Errorf("%d tables were right", right)
	}
}

// FuzzOpen holds any bytes against the document; with right sums too, so that more is looked at than the sums.
func FuzzOpen(f *testing.F) {
	for _, n := range []int{1, 3, 12} {
		b := laid(numbered(n), usual).bytes()
		f.Add(b)
		f.Add(withNumber(b, 4, 1))
	}
	users := append(aside(numbered(4)), "b")
	f.Fuzz(func(t *testing.T, b []byte) {
		asRead(t, b, users)
		if x, err := sstable.Open(b); (x == nil) != (err != api.OK) {
			t.Errorf("%v, %d", x, err)
		}
		if len(b) > 36 {
			asRead(t, resummed(b), users)
		}
	})
}

// resummed are bytes whose filter and index have right sums, if their places are within them.
func resummed(b []byte) []byte {
	out := slices.Clone(b)
	from, end := int(numberOf(b, 0)), int(numberOf(b, 2))
	if from+4 <= end && end+4 <= len(b)-28 {
		copy(out[end-4:], sumBytes(out[from:end-4]))
		copy(out[len(b)-32:], sumBytes(out[end:len(b)-32]))
	}
	return out
}
