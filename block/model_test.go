package block_test

import (
	"encoding/binary"
	"math/rand"
	"slices"
	"sort"
	"strings"
	"testing"

	"staddle/api"
	"staddle/block"
)

// plain reads bytes as the document tells them, by asking each thing by itself.
type plain struct {
	body, places []byte
	interval     int
	l            []api.KV
}

// number is the number at a place, in as few bytes as it needs, and the place behind.
func (p *plain) number(at int) (n uint64, behind int, ok bool) {
	n, k := binary.Uvarint(p.body[at:])
	if k <= 0 || k > 1 && p.body[at+k-1] == 0 || n > 1<<20 {
		return 0, 0, false
	}
	return n, at + k, true
}

// entry reads the entry at a place, and tells the place behind.
func (p *plain) entry(at int, key string) (string, int, bool) {
	mark := len(p.l)%p.interval == 0
	if m := len(p.l) / p.interval; mark && (m >= len(p.places)/4 || int(binary.LittleEndian.Uint32(p.places[4*m:])) != at) {
		return "", 0, false
	}
	same, at, first := p.number(at)
	if !first || mark && same != 0 || same > uint64(len(key)) {
		return "", 0, false
	}
	left, at, second := p.number(at)
	if !second {
		return "", 0, false
	}
	size, at, third := p.number(at)
	if !third || at+int(left)+int(size) > len(p.body) {
		return "", 0, false
	}
	rest, value := string(p.body[at:at+int(left)]), string(p.body[at+int(left):at+int(left+size)])
	if !mark && len(rest) > 0 && strings.HasPrefix(key, key[:same]+rest[:1]) {
		return "", 0, false
	}
	key = key[:same] + rest
	user := len(key) - 8
	if user < 0 || user > 64 || key[user] > 1 || len(value) > 1000 {
		return "", 0, false
	}
	e := api.KV{Key: api.IKey{User: key[:user], Seq: binary.LittleEndian.Uint64([]byte(key[user:])) / 256, Kind: int(key[user])}, Value: value}
	if n := len(p.l); n > 0 && !ahead(p.l[n-1].Key, e.Key) {
		return "", 0, false
	}
	p.l = append(p.l, e)
	return key, at + int(left) + int(size), true
}

// readPlainly are the entries and the interval of bytes that are a block.
func readPlainly(b []byte) (l []api.KV, interval int, ok bool) {
	if len(b) < 5 {
		return nil, 0, false
	}
	foot := len(b) - 5
	interval, count := int(b[foot]), int(binary.LittleEndian.Uint32(b[foot+1:]))
	if interval < 1 || interval > 16 || 4*count > foot {
		return nil, 0, false
	}
	p := &plain{body: b[:foot-4*count], places: b[foot-4*count : foot], interval: interval}
	key := ""
	for at := 0; at < len(p.body); {
		if key, at, ok = p.entry(at, key); !ok {
			return nil, 0, false
		}
	}
	if marksOf(len(p.l), interval) != count {
		return nil, 0, false
	}
	return p.l, interval, true
}

// asRead tells a fault if bytes are read otherwise than the document says; and whether they are a block.
func asRead(t testing.TB, b []byte) bool {
	t.Helper()
	l, interval, ok := readPlainly(b)
	if !ok {
		closed(t, "no block", b)
		return false
	}
	holds(t, opens(t, b), l)
	if again := builds(t, l, interval); string(again) != string(b) {
		t.Fatalf("% x is laid as % x", b, again)
	}
	return true
}

// userByChance is a user of few kinds of bytes, so that many share beginnings.
func userByChance(r *rand.Rand) string {
	b := make([]byte, r.Intn(1+r.Intn(12)))
	if r.Intn(20) == 0 {
		b = make([]byte, 60+r.Intn(5))
	}
	for i := range b {
		b[i] = []byte{0, 0, 1, 'a', 0xff}[r.Intn(5)]
	}
	return string(b)
}

// keyByChance is a key whose number is mostly one of few.
func keyByChance(r *rand.Rand) api.IKey {
	seq := uint64(r.Intn(4))
	if r.Intn(4) == 0 {
		seq = r.Uint64() >> (8 + r.Intn(56))
	}
	return api.IKey{User: userByChance(r), Seq: seq, Kind: r.Intn(2)}
}

// entriesByChance are entries that rise.
func entriesByChance(r *rand.Rand) []api.KV {
	var l []api.KV
	for range r.Intn(1 + r.Intn(80)) {
		l = append(l, api.KV{Key: keyByChance(r), Value: text(r.Intn(1 + r.Intn(1+r.Intn(1000))))})
	}
	sort.Slice(l, func(i, k int) bool { return ahead(l[i].Key, l[k].Key) })
	return slices.CompactFunc(l, func(a, b api.KV) bool { return a.Key == b.Key })
}

// P11.1 to P11.4: entries by chance are laid as the document tells, and read; keys by chance are found.
func TestByChance(t *testing.T) {
	r := rand.New(rand.NewSource(11))
	for range 6000 {
		l, interval := entriesByChance(r), 1+r.Intn(16)
		both(t, l, interval)
		if read, told, ok := readPlainly(laid(l, interval)); !ok || told != interval || !slices.Equal(read, l) {
			t.Fatalf("the plain reading of %v by %d is %v by %d", l, interval, read, told)
		}
		x := opens(t, laid(l, interval))
		for range 20 {
			k := keyByChance(r)
			finds(t, x, k, findPlainly(l, k))
		}
	}
}

// P11.1: entries by chance that may not rise are refused by the first one that doesn't.
func TestUnsortedByChance(t *testing.T) {
	r := rand.New(rand.NewSource(12))
	refused := 0
	for range 10000 {
		l := entriesByChance(r)
		for range r.Intn(2) {
			if n := len(l); n > 1 {
				l[r.Intn(n)].Key = l[r.Intn(n)].Key
			}
		}
		rises := true
		for i := 1; i < len(l); i++ {
			rises = rises && ahead(l[i-1].Key, l[i].Key)
		}
		interval := 1 + r.Intn(16)
		if rises {
			both(t, l, interval)
			continue
		}
		refused++
		refuses(t, "unsorted", l, interval, api.ErrBlockOrder)
		closed(t, "unsorted", laid(l, interval))
	}
	if refused < 1000 {
		t.Errorf("only %d were refused", refused)
	}
}

// P11.2: blocks that are changed by chance in a few bytes, and bytes made of little.
func TestBytesByChance(t *testing.T) {
	r := rand.New(rand.NewSource(13))
	blocks := 0
	for range 50000 {
		l := entriesByChance(r)
		b := laid(l[:min(len(l), 6)], 1+r.Intn(4))
		for range r.Intn(3) {
			b[r.Intn(len(b))] = []byte{0, 1, 2, 8, 9, 0x80, byte(r.Intn(256))}[r.Intn(7)]
		}
		if asRead(t, b) {
			blocks++
		}
	}
	if blocks < 5000 || blocks > 45000 {
		t.Errorf("%d blocks were among them", blocks)
	}
	for range 100000 {
		b := make([]byte, r.Intn(60))
		for i := range b {
			b[i] = []byte{0, 0, 0, 1, 1, 2, 8, 0xff}[r.Intn(8)]
		}
		asRead(t, b)
	}
}

// P11.4: of two blocks that are alike between two marks, entries there are the same, whatever stands elsewhere.
func TestStretchesAreTheirOwn(t *testing.T) {
	for _, interval := range []int{1, 2, 5, 16} {
		l := numbered(5*interval + 1)
		x := opens(t, builds(t, l, interval))
		other := slices.Clone(l)
		for i := range other {
			if i/interval != 2 {
				other[i].Value = text(900)
			}
		}
		y := opens(t, builds(t, other, interval))
		for i := range interval {
			one, _ := x.At(2*interval + i)
			two, _ := y.At(2*interval + i)
			if one != two || one != l[2*interval+i] {
				t.Errorf("At(%d): %v, %v", 2*interval+i, one, two)
			}
			finds(t, y, one.Key, 2*interval+i)
		}
	}
}

// FuzzOpen holds any bytes against the document.
func FuzzOpen(f *testing.F) {
	for _, l := range small() {
		f.Add(laid(l, 1))
		f.Add(laid(l, 3))
	}
	f.Fuzz(func(t *testing.T, b []byte) {
		asRead(t, b)
		if x, err := block.Open(b); (x == nil) != (err != api.OK) {
			t.Errorf("%v, %d", x, err)
		}
	})
}
