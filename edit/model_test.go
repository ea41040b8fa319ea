package edit_test

import (
	"bytes"
	"encoding/binary"
	"math"
	"math/rand"
	"strings"
	"testing"

	"staddle/api"
	"staddle/edit"
)

// plain reads bytes as the document tells them, by asking each thing by itself; wrong is set where one may not be.
type plain struct {
	b     []byte
	wrong bool
}

// number is a number from low to high, in as few bytes as it needs.
func (p *plain) number(low, high uint64) uint64 {
	n, k := binary.Uvarint(p.b)
	if k <= 0 || k > 1 && p.b[k-1] == 0 || n < low || n > high {
		p.wrong = true
		return low
	}
	p.b = p.b[k:]
	return n
}

// key is a key, its length ahead.
func (p *plain) key() api.IKey {
	size := int(p.number(8, 72))
	if p.wrong || size > len(p.b) || p.b[size-8] > 1 {
		p.wrong = true
		return api.IKey{}
	}
	user, tail := p.b[:size-8], p.b[size-8:size]
	p.b = p.b[size:]
	return api.IKey{User: string(user), Seq: binary.LittleEndian.Uint64(tail) / 256, Kind: int(tail[0])}
}

// notAhead tells whether a key is behind another one, or the same.
func notAhead(large, small api.IKey) bool {
	switch {
	case large.User != small.User:
		return large.User > small.User
	case large.Seq != small.Seq:
		return large.Seq < small.Seq
	}
	return large.Kind <= small.Kind
}

// readPlainly is the edit that bytes are, if they are one.
func readPlainly(b []byte) (x api.Edit, ok bool) {
	p := &plain{b: b}
	x.Log = p.number(0, topNum)
	x.Next = p.number(0, topNum)
	x.Last = p.number(0, topSeq)
	for n := p.number(0, 20000); n > 0 && !p.wrong; n-- {
		level := p.number(0, 3)
		x.Dels = append(x.Dels, api.Gone{Level: int(level), Num: p.number(1, topNum)})
	}
	for n := p.number(0, 100); n > 0 && !p.wrong; n-- {
		f := api.File{Level: int(p.number(0, 3))}
		f.Num = p.number(1, topNum)
		f.Size = int(p.number(1, topSize))
		f.Small = p.key()
		f.Large = p.key()
		p.wrong = p.wrong || !notAhead(f.Large, f.Small)
		x.Adds = append(x.Adds, f)
	}
	if p.wrong || len(p.b) > 0 {
		return api.Edit{}, false
	}
	return x, true
}

// asRead tells a fault if bytes are read otherwise than the document says; and whether they are an edit.
func asRead(t testing.TB, b []byte) bool {
	t.Helper()
	x, ok := readPlainly(b)
	if !ok {
		none(t, "no edit", b)
		return false
	}
	may(t, "an edit", x)
	reads(t, "an edit", b, x)
	return true
}

// wrongGone is what is wrong with a level and a number.
func wrongGone(level int, num uint64) api.Errno {
	if level != 0 && level != 1 && level != 2 && level != 3 {
		return api.ErrEditLevel
	}
	if num == 0 || num > topNum {
		return api.ErrEditFile
	}
	return api.OK
}

// wrongKey is what is wrong with a key.
func wrongKey(k api.IKey) api.Errno {
	if len(k.User) > 64 {
		return api.ErrKeyLong
	}
	if k.Seq > topSeq {
		return api.ErrKeySeq
	}
	if k.Kind != 0 && k.Kind != 1 {
		return api.ErrKeyKind
	}
	return api.OK
}

// allWrong are all errors that an edit has, in the document's order.
func allWrong(x api.Edit) []api.Errno {
	var l []api.Errno
	tell := func(wrong bool, err api.Errno) {
		if wrong {
			l = append(l, err)
		}
	}
	tell(len(x.Dels) > 20000, api.ErrEditMany)
	tell(len(x.Adds) > 100, api.ErrEditMany)
	tell(x.Log > topNum, api.ErrEditFile)
	tell(x.Next > topNum, api.ErrEditFile)
	tell(x.Last > topSeq, api.ErrKeySeq)
	for _, g := range x.Dels {
		err := wrongGone(g.Level, g.Num)
		tell(err != api.OK, err)
	}
	for _, f := range x.Adds {
		err := wrongGone(f.Level, f.Num)
		tell(err != api.OK, err)
		tell(f.Size <= 0 || f.Size > topSize, api.ErrEditFile)
		err = wrongKey(f.Small)
		tell(err != api.OK, err)
		err = wrongKey(f.Large)
		tell(err != api.OK, err)
		tell(!notAhead(f.Large, f.Small), api.ErrEditFile)
	}
	return l
}

// chance makes edits; of its things one in odds may not be.
type chance struct {
	*rand.Rand
	odds int
}

// spoils tells whether a thing is to be one that may not be.
func (c chance) spoils() bool { return c.odds > 0 && c.Intn(c.odds) == 0 }

// upTo is a number up to a limit, often one of both ends; above it, where it is spoilt.
func (c chance) upTo(low, limit uint64) uint64 {
	if c.spoils() {
		return []uint64{limit + 1, math.MaxUint64, 1 << 63, limit + 1 + uint64(c.Intn(1000)), 0}[c.Intn(5)]
	}
	switch c.Intn(4) {
	case 0:
		return low
	case 1:
		return limit
	}
	return min(max(low, c.Uint64()>>c.Intn(64)), limit)
}

// level is a level.
func (c chance) level() int {
	if c.spoils() {
		return []int{-1, 4, math.MaxInt, math.MinInt}[c.Intn(4)]
	}
	return c.Intn(4)
}

// key is a key of few users.
func (c chance) key() api.IKey {
	k := api.IKey{User: strings.Repeat([]string{"", "a", "\x00", "\xff"}[c.Intn(4)], c.Intn(3)), Seq: c.upTo(0, topSeq), Kind: c.Intn(2)}
	if c.Intn(8) == 0 {
		k.User = strings.Repeat("m", 60+c.Intn(5))
	}
	if c.spoils() {
		k.User = strings.Repeat("m", 65)
	}
	if c.spoils() {
		k.Kind = []int{-1, 2, 255, 256}[c.Intn(4)]
	}
	return k
}

// edit is an edit of a few files.
func (c chance) edit() api.Edit {
	x := api.Edit{Log: c.upTo(0, topNum), Next: c.upTo(0, topNum), Last: c.upTo(0, topSeq)}
	for range c.Intn(1 + c.Intn(6)) {
		x.Dels = append(x.Dels, api.Gone{Level: c.level(), Num: c.upTo(1, topNum)})
	}
	for range c.Intn(1 + c.Intn(6)) {
		f := api.File{Level: c.level(), Num: c.upTo(1, topNum), Size: int(c.upTo(1, topSize)), Small: c.key(), Large: c.key()}
		if !notAhead(f.Large, f.Small) && !c.spoils() {
			f.Small, f.Large = f.Large, f.Small
		}
		x.Adds = append(x.Adds, f)
	}
	return x
}

// P13.1 to P13.3: edits by chance that may be are laid as the document tells, and read.
func TestByChance(t *testing.T) {
	c := chance{Rand: rand.New(rand.NewSource(13))}
	for range 20000 {
		x := c.edit()
		if l := allWrong(x); len(l) > 0 {
			t.Fatalf("%+v: %v", x, l)
		}
		may(t, "by chance", x)
		if read, ok := readPlainly(laid(x)); !ok || !alike(read, x) {
			t.Fatalf("the plain reading of %+v is %+v", x, read)
		}
	}
}

// P13.1: of edits by chance with several faults the first one is told.
func TestFaultsByChance(t *testing.T) {
	c := chance{Rand: rand.New(rand.NewSource(14)), odds: 12}
	seen := map[api.Errno]int{}
	for range 100000 {
		x := c.edit()
		want := append(allWrong(x), api.OK)[0]
		seen[want]++
		if err := edit.Check(x); err != want {
			t.Fatalf("%+v: %d, not %d", x, err, want)
		}
		if b, err := edit.Encode(x); err != want || (len(b) > 0) != (want == api.OK) {
			t.Fatalf("%+v: % x, %d", x, b, err)
		}
		asRead(t, laid(x))
	}
	for _, err := range []api.Errno{api.OK, api.ErrEditLevel, api.ErrEditFile, api.ErrKeyLong, api.ErrKeySeq, api.ErrKeyKind} {
		if seen[err] < 100 {
			t.Errorf("%d came %d times", err, seen[err])
		}
	}
}

// P13.2: edits' bytes that are changed by chance in a few places, and bytes made of little.
func TestBytesByChance(t *testing.T) {
	c := chance{Rand: rand.New(rand.NewSource(15))}
	edits := 0
	for range 100000 {
		b := laid(c.edit())
		for range c.Intn(3) {
			at := c.Intn(len(b))
			switch c.Intn(4) {
			case 0:
				b[at] = byte(c.Intn(256))
			case 1:
				b[at] ^= 1 << c.Intn(8)
			case 2:
				b = append(b[:at:at], b[at+1:]...)
			case 3:
				b = append(append(b[:at:at], byte(c.Intn(3))), b[at:]...)
			}
			if len(b) == 0 {
				break
			}
		}
		if asRead(t, b) {
			edits++
		}
	}
	if edits < 20000 || edits > 90000 {
		t.Errorf("%d edits were among them", edits)
	}
	for range 200000 {
		b := make([]byte, c.Intn(30))
		for i := range b {
			b[i] = []byte{0, 0, 0, 0, 1, 1, 2, 8, 0x80, 0xff}[c.Intn(10)]
		}
		asRead(t, b)
	}
}

// FuzzDecode holds any bytes against the document.
func FuzzDecode(f *testing.F) {
	for what, x := range some() {
		if !strings.HasPrefix(what, "1") {
			f.Add(laid(x))
		}
	}
	f.Fuzz(func(t *testing.T, b []byte) {
		was := bytes.Clone(b)
		asRead(t, b)
		if !bytes.Equal(b, was) {
			t.Error("what was handed in is changed")
		}
	})
}
