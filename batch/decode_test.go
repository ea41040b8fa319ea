package batch_test

import (
	"bytes"
	"encoding/binary"
	"math/rand"
	"slices"
	"testing"

	"staddle/api"
	"staddle/batch"
)

// refused tells a fault if bytes are read as a batch, or if something stands beside the error.
func refused(t *testing.T, name string, b []byte) {
	t.Helper()
	if seq, ops, err := batch.Decode(b); seq != 0 || len(ops) != 0 || err != api.ErrBatchForm {
		t.Errorf("%s: Decode of % x: %d, %#v, %d", name, b, seq, ops, err)
	}
}

// small are batches with all forms of operations, few bytes each.
func small() [][]api.Op {
	return [][]api.Op{nil, of(1, put("k", "v")), of(1, del("k")), of(2, del("")), of(3, put("", "")),
		{put("ab", ""), del("c"), put("", "de"), put("fg", text(130)), del("")}, of(64, del("")), of(64, put("k", "v"))}
}

// P3.3: bytes that are cut at each place, and bytes with more behind.
func TestCutAndLonger(t *testing.T) {
	for _, ops := range small() {
		b := laid(7, ops)
		for n := range b {
			refused(t, "cut", b[:n])
			// Spare room is not to be read as if it belonged to the bytes.
			refused(t, "cut, without spare room", slices.Clone(b[:n:n]))
		}
		for _, more := range []string{"\x00", "\x01", "\xff", "\x00\x00", "\x01\x00\x00", string(b)} {
			refused(t, "longer", append(slices.Clone(b), more...))
		}
	}
	refused(t, "none", nil)
	refused(t, "none", []byte{})
}

// withCount is a batch's bytes with another count in them.
func withCount(ops []api.Op, count uint32) []byte {
	b := laid(7, ops)
	binary.LittleEndian.PutUint32(b[8:], count)
	return b
}

// P3.3: a count that is not what follows, or above the limit.
func TestCounts(t *testing.T) {
	for _, ops := range small() {
		for _, count := range []uint32{0, 1, 2, 3, 4, 5, 6, 63, 64, 65, 255, 256, 257, 1 << 16, 1 << 24, 1 << 31, 1<<32 - 1} {
			if int(count) != len(ops) {
				refused(t, "a count", withCount(ops, count))
			}
		}
	}
	refused(t, "65 that are there", laid(7, of(65, del(""))))
	refused(t, "65 that are put", laid(7, of(65, put("k", "v"))))
	refused(t, "257 that are there", laid(7, of(257, del(""))))
}

// P3.3: what Check refuses is not read, though it is laid as the rest is.
func TestDecodeRefusesFaulty(t *testing.T) {
	for _, c := range []struct {
		name string
		seq  uint64
		ops  []api.Op
	}{
		{"a number", 1 << 56, nil},
		{"a number", 1<<64 - 1, nil},
		{"a number", 1 << 63, of(1, del("k"))},
		{"the last number", top, of(2, del("k"))},
		{"the last number", top - 62, of(64, put("k", "v"))},
		{"the last number, wrapped round", 1<<64 - 1, of(2, del("k"))},
		{"a key of 65", 7, of(1, put(text(65), "v"))},
		{"a key of 65", 7, of(1, del(text(65)))},
		{"a key of 65, the last", 7, []api.Op{del("a"), put("b", "c"), del(text(65))}},
		{"a key of 5000", 7, of(1, del(text(5000)))},
		{"a value of 1001", 7, of(1, put("k", text(1001)))},
		{"a value of 1001, in the middle", 7, []api.Op{del("a"), put("b", text(1001)), del("c")}},
		{"a kind", 7, of(1, api.Op{Kind: 2, Key: "k"})},
		{"a kind", 7, of(1, api.Op{Kind: 255, Key: "k"})},
		{"a kind, the last", 7, []api.Op{del("a"), put("b", "c"), {Kind: 3}}},
		{"a kind, the first", 7, []api.Op{{Kind: 128}, del("a")}},
	} {
		refused(t, c.name, laid(c.seq, c.ops))
	}
}

// P3.3: every kind but two, with a value behind the key and without.
func TestKinds(t *testing.T) {
	for kind := 2; kind < 256; kind++ {
		refused(t, "a kind", laid(7, of(1, api.Op{Kind: kind, Key: "k"})))
		refused(t, "a kind, with a value", append(laid(7, of(1, api.Op{Kind: kind, Key: "k"})), 1, 'v'))
	}
	refused(t, "a value where it deletes", append(laid(7, of(1, del("k"))), 1, 'v'))
	refused(t, "an empty value where it deletes", append(laid(7, of(1, del("k"))), 0))
}

// P3.3: lengths in more bytes than they need, above what follows, and above all numbers.
func TestLengths(t *testing.T) {
	head := laid(7, of(1, del("")))[:12]
	for name, tail := range map[string]string{
		"a key's, two bytes for 0":              "\x00\x80\x00",
		"a key's, two bytes for 1":              "\x00\x81\x00k",
		"a key's, three bytes for 1":            "\x00\x81\x80\x00k",
		"a key's, ten bytes for 1":              "\x00\x81\x80\x80\x80\x80\x80\x80\x80\x80\x00k",
		"a put key's, two bytes for 1":          "\x01\x81\x00k\x01v",
		"a value's, two bytes for 0":            "\x01\x01k\x80\x00",
		"a value's, two bytes for 1":            "\x01\x01k\x81\x00v",
		"a value's, three bytes for 128":        "\x01\x01k\x80\x81\x00" + text(128),
		"a key's, above what follows":           "\x00\x02k",
		"a value's, above what follows":         "\x01\x01k\x02v",
		"a key's, 2^63 and more":                "\x00\xff\xff\xff\xff\xff\xff\xff\xff\xff\x01k",
		"a value's, 2^63":                       "\x01\x01k\x80\x80\x80\x80\x80\x80\x80\x80\x80\x01v",
		"a key's, above all numbers":            "\x00\xff\xff\xff\xff\xff\xff\xff\xff\xff\x02k",
		"a key's, eleven bytes":                 "\x00\x81\x80\x80\x80\x80\x80\x80\x80\x80\x80\x00k",
		"a key's, without an end":               "\x00\xff\xff",
		"a key's, 0, and its bytes left over":   "\x00\x00k",
		"a value's, 0, and its bytes left over": "\x01\x01k\x00v",
	} {
		refused(t, name, append(slices.Clone(head), tail...))
	}
}

// read is what the document says that bytes are, by other means than the package's.
func read(b []byte) (seq uint64, ops []api.Op, ok bool) {
	if len(b) < 12 {
		return 0, nil, false
	}
	seq, count := binary.LittleEndian.Uint64(b), int(binary.LittleEndian.Uint32(b[8:]))
	rest, ok := b[12:], true
	texted := func() string {
		n, k := binary.Uvarint(rest)
		if k <= 0 || n > uint64(len(rest)-k) || k > 1 && rest[k-1] == 0 {
			ok = false
			return ""
		}
		s := string(rest[k : k+int(n)])
		rest = rest[k+int(n):]
		return s
	}
	for i := 0; i < count && ok; i++ {
		if i == 64 || len(rest) == 0 || rest[0] > 1 {
			return 0, nil, false
		}
		op := api.Op{Kind: int(rest[0])}
		rest = rest[1:]
		op.Key = texted()
		if op.Kind == api.Put {
			op.Value = texted()
		}
		ok = ok && len(op.Key) <= 64 && len(op.Value) <= 1000 && seq <= top-uint64(i)
		ops = append(ops, op)
	}
	if !ok || len(rest) > 0 || seq > top {
		return 0, nil, false
	}
	return seq, ops, true
}

// asRead tells a fault if bytes are read otherwise than the document says.
func asRead(t *testing.T, b []byte) {
	t.Helper()
	wantSeq, wantOps, ok := read(b)
	if !ok {
		refused(t, "no batch", b)
		return
	}
	if seq, ops, err := batch.Decode(b); seq != wantSeq || !slices.Equal(ops, wantOps) || err != api.OK {
		t.Errorf("Decode of % x: %d, %#v, %d", b, seq, ops, err)
	}
	if again, err := batch.Encode(wantSeq, wantOps); !bytes.Equal(again, b) || err != api.OK {
		t.Errorf("% x is laid as % x, %d", b, again, err)
	}
}

// P3.3, P3.4: each byte of a batch made each other one; some are batches again.
func TestEachByteChanged(t *testing.T) {
	for _, ops := range small()[:6] {
		b := laid(top-4, ops)
		for i := range b {
			for c := range 256 {
				other := slices.Clone(b)
				other[i] = byte(c)
				asRead(t, other)
			}
		}
	}
}

// P3.3, P3.4: bytes that are made of little, so that many of them are nearly batches, or are.
func TestBytesThatAreNearlyBatches(t *testing.T) {
	r := rand.New(rand.NewSource(3))
	batches := 0
	for range 200000 {
		b := binary.LittleEndian.AppendUint64(nil, uint64(r.Intn(3)))
		b = binary.LittleEndian.AppendUint32(b, uint32(r.Intn(4)))
		for range r.Intn(9) {
			b = append(b, []byte{0, 0, 1, 1, 2, 0x80}[r.Intn(6)])
		}
		if _, _, ok := read(b); ok {
			batches++
		}
		asRead(t, b)
	}
	if batches < 1000 {
		t.Errorf("only %d batches were among them", batches)
	}
}
