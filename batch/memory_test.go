package batch_test

import (
	"bytes"
	"slices"
	"testing"

	"staddle/api"
	"staddle/batch"
)

// R4: operations that are handed in are not changed, their spare room included.
func TestOperationsStay(t *testing.T) {
	whole := []api.Op{put("a", "b"), del("c"), put("d", "e"), put("f", "g")}
	was := slices.Clone(whole)
	batch.Check(7, whole[:2])
	batch.Encode(7, whole[:2])
	batch.Encode(1<<60, whole[:2])
	if !slices.Equal(whole, was) {
		t.Errorf("they became %#v", whole)
	}
}

// R4: bytes that are handed in are neither changed nor kept, and what was read is memory of its own.
func TestBytesStay(t *testing.T) {
	ops := []api.Op{put("some key", "some value"), del("other")}
	b := append(laid(7, ops), "spare room"...)
	was := bytes.Clone(b)
	n := len(b) - len("spare room")
	_, first, _ := batch.Decode(b[:n])
	_, second, _ := batch.Decode(b[:n])
	batch.Decode(b)
	if !bytes.Equal(b, was) {
		t.Error("what was handed in is changed")
	}
	clear(b)
	clear(second[:cap(second)])
	if !slices.Equal(first, ops) {
		t.Errorf("what was read became %#v", first)
	}
}

// R4: each answer is new memory, spare room too.
func TestAnswersShareNothing(t *testing.T) {
	for _, ops := range small() {
		want := laid(7, ops)
		first, _ := batch.Encode(7, ops)
		second, _ := batch.Encode(7, ops)
		clear(second[:cap(second)])
		if !bytes.Equal(first, want) {
			t.Errorf("an answer became % x", first)
		}
	}
}

// R5: spare room is not seen.
func TestSpareRoomIsNotSeen(t *testing.T) {
	ops := append(make([]api.Op, 0, 100), put("a", "b"), del("c"))
	roomy := append(make([]byte, 0, 1000), laid(7, ops)...)
	if b, err := batch.Encode(7, ops); !bytes.Equal(b, roomy) || err != api.OK {
		t.Errorf("% x, %d", b, err)
	}
	if seq, got, err := batch.Decode(roomy); seq != 7 || !slices.Equal(got, ops) || err != api.OK {
		t.Errorf("%d, %#v, %d", seq, got, err)
	}
}
