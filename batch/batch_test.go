package batch_test

import (
	"bytes"
	"encoding/binary"
	"math"
	"slices"
	"strings"
	"testing"

	"staddle/api"
	"staddle/batch"
)

const top = 1<<56 - 1 // the greatest number

func put(key, value string) api.Op { return api.Op{Kind: api.Put, Key: key, Value: value} }

func del(key string) api.Op { return api.Op{Kind: api.Delete, Key: key} }

func of(n int, op api.Op) []api.Op { return slices.Repeat([]api.Op{op}, n) }

func text(n int) string { return strings.Repeat("x", n) }

// good are batches that may be: both ends of all that is limited.
func good() []struct {
	seq uint64
	ops []api.Op
} {
	mixed := []api.Op{put("", ""), del(""), put("k", "v"), del("k"), put("k", "v"), put(text(64), text(1000)),
		del(text(64)), put("\x00\xff", "\xff\x00"), put(text(1), text(127)), put("käse", text(128)), put(text(63), text(999))}
	return []struct {
		seq uint64
		ops []api.Op
	}{
		{0, nil}, {0, []api.Op{}}, {1, nil}, {top, nil}, {top, []api.Op{}}, {0x01020304050607, nil},
		{0, of(1, del(""))}, {7, of(1, put("k", "v"))}, {7, of(1, del("k"))},
		{top, of(1, put("k", "v"))}, {top, of(1, del(""))}, {top - 1, of(2, del("k"))}, {top - 1, of(1, del("k"))},
		{0, of(64, del(""))}, {0, of(63, put("", ""))}, {top - 63, of(64, del("k"))}, {top - 63, of(64, put("k", "v"))},
		{300, of(64, put(text(64), text(1000)))}, {1 << 55, mixed}, {top - 10, mixed},
		{0, of(1, put(text(64), ""))}, {0, of(1, put("", text(1000)))}, {0, of(1, del(text(64)))},
	}
}

// laid are the bytes that the document tells, by other means than the package's.
func laid(seq uint64, ops []api.Op) []byte {
	b := binary.LittleEndian.AppendUint64(nil, seq)
	b = binary.LittleEndian.AppendUint32(b, uint32(len(ops)))
	for _, op := range ops {
		b = append(append(b, byte(op.Kind)), lengthAnd(op.Key)...)
		if op.Kind == api.Put {
			b = append(b, lengthAnd(op.Value)...)
		}
	}
	return b
}

func lengthAnd(s string) []byte { return append(binary.AppendUvarint(nil, uint64(len(s))), s...) }

// The section "Errors": the numbers are api's.
func TestErrorNumbers(t *testing.T) {
	if api.ErrKeyLong != 21 || api.ErrKeySeq != 22 || api.ErrKeyKind != 23 || api.ErrBatchMany != 30 || api.ErrBatchValue != 31 || api.ErrBatchForm != 32 {
		t.Error("an error has another number than the document's")
	}
	if api.MaxOps != 64 || api.MaxKey != 64 || api.MaxValue != 1000 || api.MaxSeq != top || api.Delete != 0 || api.Put != 1 {
		t.Error("a limit or a kind is another one than the document's")
	}
}

// faulty are batches with the error that is first of those that they have.
func faulty() map[string]struct {
	seq  uint64
	ops  []api.Op
	want api.Errno
} {
	kind := func(k int) api.Op { return api.Op{Kind: k, Key: "k"} }
	long, big, valued := put(text(65), "v"), put("k", text(1001)), api.Op{Key: "k", Value: "v"}
	bad := api.Op{Kind: 2, Key: text(65), Value: text(1001)}
	return map[string]struct {
		seq  uint64
		ops  []api.Op
		want api.Errno
	}{
		"65":                              {0, of(65, del("k")), api.ErrBatchMany},
		"1000":                            {1, of(1000, put("k", "v")), api.ErrBatchMany},
		"65, a number too high":           {top + 1, of(65, del("k")), api.ErrBatchMany},
		"65, the last number too high":    {top - 63, of(65, del("k")), api.ErrBatchMany},
		"65 that are bad":                 {0, of(65, bad), api.ErrBatchMany},
		"65 that are bad, too high":       {math.MaxUint64, of(65, bad), api.ErrBatchMany},
		"none, too high":                  {top + 1, nil, api.ErrKeySeq},
		"none at all, too high":           {math.MaxUint64, []api.Op{}, api.ErrKeySeq},
		"one, too high":                   {top + 1, of(1, del("k")), api.ErrKeySeq},
		"one, far too high":               {math.MaxUint64, of(1, del("k")), api.ErrKeySeq},
		"two, the last too high":          {top, of(2, del("k")), api.ErrKeySeq},
		"two, both too high":              {top + 1, of(2, del("k")), api.ErrKeySeq},
		"two, the last wraps round":       {math.MaxUint64, of(2, del("k")), api.ErrKeySeq},
		"three, the last too high":        {top - 1, of(3, put("k", "v")), api.ErrKeySeq},
		"64, the last too high":           {top - 62, of(64, del("k")), api.ErrKeySeq},
		"64, the last wraps round":        {math.MaxUint64 - 30, of(64, del("k")), api.ErrKeySeq},
		"a bad one, too high":             {top + 1, of(1, bad), api.ErrKeySeq},
		"bad ones, the last too high":     {top, of(2, bad), api.ErrKeySeq},
		"kind 2":                          {0, of(1, kind(2)), api.ErrKeyKind},
		"kind -1":                         {0, of(1, kind(-1)), api.ErrKeyKind},
		"kind 255":                        {0, of(1, kind(255)), api.ErrKeyKind},
		"kind 256":                        {0, of(1, kind(256)), api.ErrKeyKind},
		"kind 257":                        {0, of(1, kind(257)), api.ErrKeyKind},
		"kind -255":                       {0, of(1, kind(-255)), api.ErrKeyKind},
		"kind 2^32 + 1":                   {0, of(1, kind(1<<32+1)), api.ErrKeyKind},
		"the least kind":                  {0, of(1, kind(math.MinInt)), api.ErrKeyKind},
		"the greatest kind":               {top, of(1, kind(math.MaxInt)), api.ErrKeyKind},
		"a key of 65, put":                {0, of(1, long), api.ErrKeyLong},
		"a key of 65, deleted":            {0, of(1, del(text(65))), api.ErrKeyLong},
		"a key of 100000":                 {0, of(1, del(text(100000))), api.ErrKeyLong},
		"a value of 1001":                 {0, of(1, big), api.ErrBatchValue},
		"a value of 100000":               {0, of(1, put("", text(100000))), api.ErrBatchValue},
		"a value where it deletes":        {0, of(1, valued), api.ErrBatchValue},
		"1001 where it deletes":           {0, of(1, api.Op{Value: text(1001)}), api.ErrBatchValue},
		"1000 where it deletes":           {0, of(1, api.Op{Value: text(1000)}), api.ErrBatchValue},
		"a kind and a key":                {0, of(1, api.Op{Kind: 2, Key: text(65)}), api.ErrKeyKind},
		"a kind and a value":              {0, of(1, api.Op{Kind: -1, Value: text(1001)}), api.ErrKeyKind},
		"a kind, a key and a value":       {0, of(1, bad), api.ErrKeyKind},
		"a key and a value":               {0, of(1, put(text(65), text(1001))), api.ErrKeyLong},
		"a key and a value, deleted":      {0, of(1, api.Op{Key: text(65), Value: "v"}), api.ErrKeyLong},
		"a kind behind a key":             {0, []api.Op{long, kind(2)}, api.ErrKeyLong},
		"a kind behind a value":           {0, []api.Op{big, kind(2)}, api.ErrBatchValue},
		"a key behind a value":            {0, []api.Op{valued, long}, api.ErrBatchValue},
		"a value behind a key":            {0, []api.Op{long, valued}, api.ErrKeyLong},
		"a key behind a kind":             {0, []api.Op{kind(2), long}, api.ErrKeyKind},
		"a value behind a kind":           {0, []api.Op{kind(-1), big}, api.ErrKeyKind},
		"the last of 64 has a kind":       {0, append(of(63, put("k", "v")), kind(2)), api.ErrKeyKind},
		"the last of 64 has a key":        {0, append(of(63, put("k", "v")), long), api.ErrKeyLong},
		"the last of 64 has a value":      {0, append(of(63, put("k", "v")), big), api.ErrBatchValue},
		"one in the middle has a value":   {0, []api.Op{del("k"), valued, put("k", "v")}, api.ErrBatchValue},
		"a fault at the greatest numbers": {top - 1, []api.Op{del("k"), long}, api.ErrKeyLong},
	}
}

// P3.1
func TestCheck(t *testing.T) {
	for _, c := range good() {
		if err := batch.Check(c.seq, c.ops); err != api.OK {
			t.Errorf("%d operations from %d on: %d", len(c.ops), c.seq, err)
		}
	}
	for name, c := range faulty() {
		if err := batch.Check(c.seq, c.ops); err != c.want {
			t.Errorf("%s: %d, not %d", name, err, c.want)
		}
	}
}

// P3.2: bytes that are written out, those of the chapter's example first.
func TestBytes(t *testing.T) {
	for _, c := range []struct {
		seq  uint64
		ops  []api.Op
		want string
	}{
		{7, of(1, put("k", "v")), "\x07\x00\x00\x00\x00\x00\x00\x00\x01\x00\x00\x00\x01\x01\x6B\x01\x76"},
		{7, of(1, del("k")), "\x07\x00\x00\x00\x00\x00\x00\x00\x01\x00\x00\x00\x00\x01\x6B"},
		{0, nil, "\x00\x00\x00\x00\x00\x00\x00\x00\x00\x00\x00\x00"},
		{0x01020304050607, of(2, del("")), "\x07\x06\x05\x04\x03\x02\x01\x00\x02\x00\x00\x00\x00\x00\x00\x00"},
		{top, of(1, put("", "")), "\xff\xff\xff\xff\xff\xff\xff\x00\x01\x00\x00\x00\x01\x00\x00"},
		{0, []api.Op{put("ab", ""), del("c"), put("", "de")}, "\x00\x00\x00\x00\x00\x00\x00\x00\x03\x00\x00\x00\x01\x02ab\x00\x00\x01c\x01\x00\x02de"},
		{0, of(1, put("k", text(128))), "\x00\x00\x00\x00\x00\x00\x00\x00\x01\x00\x00\x00\x01\x01k\x80\x01" + text(128)},
		{0, of(1, put(text(64), text(1000))), "\x00\x00\x00\x00\x00\x00\x00\x00\x01\x00\x00\x00\x01\x40" + text(64) + "\xe8\x07" + text(1000)},
	} {
		if b, err := batch.Encode(c.seq, c.ops); string(b) != c.want || err != api.OK {
			t.Errorf("Encode(%d, %#v): % x, %d", c.seq, c.ops, b, err)
		}
		if seq, ops, err := batch.Decode([]byte(c.want)); seq != c.seq || !slices.Equal(ops, c.ops) || err != api.OK {
			t.Errorf("Decode of % x: %d, %#v, %d", c.want, seq, ops, err)
		}
	}
}

// P3.2: Encode's error is Check's, and there are no bytes beside it.
func TestEncodeRefuses(t *testing.T) {
	for name, c := range faulty() {
		if b, err := batch.Encode(c.seq, c.ops); len(b) != 0 || err != c.want {
			t.Errorf("%s: % x, %d, not %d", name, b, err, c.want)
		}
	}
}

// P3.4: what is laid is read, and what is read is laid again.
func TestThereAndBack(t *testing.T) {
	for _, c := range good() {
		b, err := batch.Encode(c.seq, c.ops)
		if !bytes.Equal(b, laid(c.seq, c.ops)) || err != api.OK {
			t.Errorf("Encode(%d, %#v): % x, %d", c.seq, c.ops, b, err)
		}
		seq, ops, err := batch.Decode(b)
		if seq != c.seq || !slices.Equal(ops, c.ops) || err != api.OK {
			t.Errorf("Decode of % x: %d, %#v, %d", b, seq, ops, err)
		}
		if again, err := batch.Encode(seq, ops); !bytes.Equal(again, b) || err != api.OK {
			t.Errorf("% x became % x, %d", b, again, err)
		}
	}
}

// P3.4: a batch of none has twelve bytes.
func TestNone(t *testing.T) {
	for _, seq := range []uint64{0, 1, 300, top} {
		for _, none := range [][]api.Op{nil, {}, make([]api.Op, 0, 70)} {
			b, err := batch.Encode(seq, none)
			if len(b) != 12 || err != api.OK {
				t.Errorf("% x, %d", b, err)
			}
			if n, ops, err := batch.Decode(b); n != seq || len(ops) != 0 || err != api.OK {
				t.Errorf("%d, %#v, %d", n, ops, err)
			}
		}
	}
}
