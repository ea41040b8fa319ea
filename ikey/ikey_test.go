package ikey_test

import (
	"bytes"
	"encoding/binary"
	"math"
	"strings"
	"testing"

	"staddle/api"
	"staddle/ikey"
)

func key(user string, seq uint64, kind int) api.IKey {
	return api.IKey{User: user, Seq: seq, Kind: kind}
}

// users are those that may be: none, all bytes, and up to the limit.
func users() []string {
	return []string{"", "a", "ab", "\x00", "\xff", "\x00\x00\x00\x00\x00\x00\x00\x00", "käse",
		strings.Repeat("x", 63), strings.Repeat("x", 64), strings.Repeat("\xff", 64)}
}

// seqs are those that may be: both ends, and where a bit more begins.
func seqs() []uint64 {
	l := []uint64{0, 1<<56 - 2, 1<<56 - 1, 0x01020304050607}
	for bit := range 56 {
		l = append(l, 1<<bit)
	}
	return l
}

// The section "Errors": the numbers are api's.
func TestErrorNumbers(t *testing.T) {
	if api.ErrKeyForm != 20 || api.ErrKeyLong != 21 || api.ErrKeySeq != 22 || api.ErrKeyKind != 23 {
		t.Error("an error has another number than the document's")
	}
}

// faulty are keys with what is wrong with them, one fault and several at once.
func faulty() []struct {
	k    api.IKey
	want api.Errno
} {
	long, longer := strings.Repeat("x", 65), strings.Repeat("\xff", 100000)
	fits := strings.Repeat("x", 64)
	return []struct {
		k    api.IKey
		want api.Errno
	}{
		{key(long, 1, api.Put), api.ErrKeyLong},
		{key(longer, 1, api.Delete), api.ErrKeyLong},
		{key(fits, 1<<56, api.Put), api.ErrKeySeq},
		{key("", 1<<56, api.Delete), api.ErrKeySeq},
		{key("a", 1<<60, api.Put), api.ErrKeySeq},
		{key("a", math.MaxUint64, api.Put), api.ErrKeySeq},
		{key("a", 1<<63, api.Delete), api.ErrKeySeq},
		{key("a", 1, 2), api.ErrKeyKind},
		{key("a", 1, 3), api.ErrKeyKind},
		{key("a", 1, -1), api.ErrKeyKind},
		{key("", 0, 255), api.ErrKeyKind},
		{key("", 0, 256), api.ErrKeyKind},
		{key("", 0, 257), api.ErrKeyKind},
		{key("", 0, 1<<32+1), api.ErrKeyKind},
		{key(fits, 1<<56-1, math.MaxInt), api.ErrKeyKind},
		{key(fits, 1<<56-1, math.MinInt), api.ErrKeyKind},
		{key(long, 1<<56, api.Put), api.ErrKeyLong},
		{key(long, 1, 2), api.ErrKeyLong},
		{key(long, 1, -1), api.ErrKeyLong},
		{key("a", 1<<56, 2), api.ErrKeySeq},
		{key("a", 1<<56, -1), api.ErrKeySeq},
		{key(long, 1<<56, 2), api.ErrKeyLong},
		{key(longer, math.MaxUint64, math.MinInt), api.ErrKeyLong},
	}
}

// P2.1
func TestCheck(t *testing.T) {
	for _, c := range faulty() {
		if err := ikey.Check(c.k); err != c.want {
			t.Errorf("a user of %d, %d, %d: %d", len(c.k.User), c.k.Seq, c.k.Kind, err)
		}
	}
	for _, user := range users() {
		for _, seq := range seqs() {
			for _, kind := range []int{api.Delete, api.Put} {
				if err := ikey.Check(key(user, seq, kind)); err != api.OK {
					t.Errorf("%q, %d, %d: %d", user, seq, kind, err)
				}
			}
		}
	}
}

// P2.2: bytes that are written out.
func TestBytes(t *testing.T) {
	for _, c := range []struct {
		k    api.IKey
		want []byte
	}{
		{key("a", 1, api.Put), []byte{0x61, 1, 1, 0, 0, 0, 0, 0, 0}},
		{key("a", 1, api.Delete), []byte{0x61, 0, 1, 0, 0, 0, 0, 0, 0}},
		{key("", 0, api.Delete), []byte{0, 0, 0, 0, 0, 0, 0, 0}},
		{key("", 0, api.Put), []byte{1, 0, 0, 0, 0, 0, 0, 0}},
		{key("", 256, api.Delete), []byte{0, 0, 1, 0, 0, 0, 0, 0}},
		{key("", 1<<56-1, api.Put), []byte{1, 255, 255, 255, 255, 255, 255, 255}},
		{key("", 1<<56-1, api.Delete), []byte{0, 255, 255, 255, 255, 255, 255, 255}},
		{key("\x00\xff", 0x01020304050607, api.Put), []byte{0, 255, 1, 7, 6, 5, 4, 3, 2, 1}},
	} {
		if b, err := ikey.Encode(c.k); !bytes.Equal(b, c.want) || err != api.OK {
			t.Errorf("Encode of %#v: % x, %d", c.k, b, err)
		}
		if k, err := ikey.Decode(c.want); k != c.k || err != api.OK {
			t.Errorf("Decode of % x: %#v, %d", c.want, k, err)
		}
	}
}

// P2.2: each key that may be is read again as it was laid.
func TestThereAndBack(t *testing.T) {
	for _, user := range users() {
		for _, seq := range seqs() {
			for _, kind := range []int{api.Delete, api.Put} {
				k := key(user, seq, kind)
				want := binary.LittleEndian.AppendUint64([]byte(user), seq*256+uint64(kind))
				b, err := ikey.Encode(k)
				if !bytes.Equal(b, want) || err != api.OK {
					t.Errorf("Encode of %#v: % x, %d", k, b, err)
				}
				if back, err := ikey.Decode(b); back != k || err != api.OK {
					t.Errorf("Decode of % x: %#v, %d", b, back, err)
				}
			}
		}
	}
}

// P2.2: a key that may not be has no bytes.
func TestEncodeAnswersCheck(t *testing.T) {
	for _, c := range faulty() {
		if b, err := ikey.Encode(c.k); len(b) != 0 || err != c.want {
			t.Errorf("a user of %d, %d, %d: % x, %d", len(c.k.User), c.k.Seq, c.k.Kind, b, err)
		}
	}
}

// P2.2: bytes that are no key's.
func TestDecodeRefuses(t *testing.T) {
	refused := func(b []byte) {
		t.Helper()
		if k, err := ikey.Decode(b); k != (api.IKey{}) || err != api.ErrKeyForm {
			t.Errorf("%d bytes, % .20x: %#v, %d", len(b), b, k, err)
		}
	}
	refused(nil)
	for n := range 8 {
		refused(make([]byte, n))
		refused(bytes.Repeat([]byte{1}, n))
	}
	for _, n := range []int{73, 74, 80, 1000, 1 << 20} {
		refused(make([]byte, n))
		refused(bytes.Repeat([]byte{1}, n))
	}
	for kind := 2; kind < 256; kind++ {
		refused([]byte{byte(kind), 0, 0, 0, 0, 0, 0, 0})
		refused([]byte{0, 1, byte(kind), 0, 0, 0, 0, 0, 0, 1})
	}
	refused(bytes.Repeat([]byte{255}, 72))
}

// P2.2: as many bytes as there may be, and as few.
func TestDecodeTakesTheEdges(t *testing.T) {
	for _, n := range []int{0, 1, 63, 64} {
		user := strings.Repeat("\x02", n)
		b := append([]byte(user), 1, 2, 0, 0, 0, 0, 0, 0)
		if k, err := ikey.Decode(b); k != key(user, 2, api.Put) || err != api.OK {
			t.Errorf("%d bytes: %#v, %d", len(b), k, err)
		}
	}
}

// P2.2: bytes of all kinds are either no key's, or just those that the key is laid into.
func FuzzDecode(f *testing.F) {
	f.Add([]byte{})
	f.Add([]byte{0x61, 1, 1, 0, 0, 0, 0, 0, 0})
	f.Add(bytes.Repeat([]byte{255}, 72))
	f.Add(bytes.Repeat([]byte{1}, 72))
	f.Add(bytes.Repeat([]byte{1}, 73))
	f.Fuzz(func(t *testing.T, b []byte) {
		k, err := ikey.Decode(b)
		may := len(b) >= 8 && len(b) <= 72 && b[len(b)-8] <= 1
		if may != (err == api.OK) || !may && (err != api.ErrKeyForm || k != api.IKey{}) {
			t.Fatalf("% x: %#v, %d", b, k, err)
		}
		if back, err := ikey.Encode(k); may && (!bytes.Equal(back, b) || err != api.OK) {
			t.Fatalf("% x: became % x, %d", b, back, err)
		}
	})
}

// scribble writes over all that a list has, its spare room too.
func scribble(b []byte) {
	whole := b[:cap(b)]
	for i := range whole {
		whole[i] = 0x33
	}
}

// R4: two answers share nothing, the spare room of both included.
func TestEncodeIsNewMemory(t *testing.T) {
	for _, user := range users() {
		k := key(user, 300, api.Put)
		first, _ := ikey.Encode(k)
		want := bytes.Clone(first)
		second, _ := ikey.Encode(k)
		scribble(second)
		if !bytes.Equal(first, want) || k != key(user, 300, api.Put) {
			t.Errorf("%q: answers share memory", user)
		}
	}
}

// R4: bytes that are read are not changed, and the key does not change with them; R5: spare room is not seen.
func TestDecodeKeepsNothing(t *testing.T) {
	whole := []byte{0x61, 0x62, 1, 2, 0, 0, 0, 0, 0, 0, 9, 9, 9}
	was := bytes.Clone(whole)
	k, err := ikey.Decode(whole[:10])
	if !bytes.Equal(whole, was) {
		t.Error("what was handed in is changed")
	}
	scribble(whole)
	if k != key("ab", 2, api.Put) || err != api.OK {
		t.Errorf("the key became %#v, %d", k, err)
	}
}
