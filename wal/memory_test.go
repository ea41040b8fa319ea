package wal_test

import (
	"bytes"
	"slices"
	"testing"

	"staddle/api"
	"staddle/wal"
)

// spared is bytes with spare room behind them that holds bytes of its own.
func spared(b []byte, spare int) []byte {
	return join(b, filled(spare, 9))[:len(b)]
}

// scribble writes over all that a list has, its spare room too.
func scribble(b []byte) {
	all := b[:cap(b)]
	for i := range all {
		all[i] = 0x33
	}
}

// R4: Put neither changes nor keeps what it is handed, its spare room included; its answer is new memory.
func TestPutIsNewMemory(t *testing.T) {
	for _, n := range []int{0, 1, 2, 7, 121, 122, 500} {
		for _, at := range []int{0, 5, 119, 120, 121, 122, 127, 128} {
			for _, spare := range []int{0, 1, 7, 200} {
				record := spared(filled(n, 1), spare)
				was := slices.Clone(record[:cap(record)])
				want := laid(at, was[:n])
				first, second := puts(t, at, record), puts(t, at, record)
				scribble(first)
				if !bytes.Equal(record[:cap(record)], was) {
					t.Errorf("Put(%d, %d bytes): what was handed in is changed, or the answer is it", at, n)
				}
				scribble(record)
				if !bytes.Equal(second, want) {
					t.Errorf("Put(%d, %d bytes): what was handed in is kept, or answers share memory", at, n)
				}
			}
		}
	}
}

// logs are logs with each end, among them records of none, of one piece and of several.
func logs(t *testing.T) [][]byte {
	log, _ := lays(t, nil, []byte("ab"), filled(300, 1), nil, nil, filled(1, 2), filled(200, 3))
	return [][]byte{nil, log, log[:len(log)-1], turned(log, 20, 0), turned(log, len(log)-1, 0), join(log, text(5, "x")), join(log, text(2, "x"))}
}

// R4: Read neither changes nor keeps what it is handed, its spare room included.
func TestReadChangesNothing(t *testing.T) {
	for _, log := range logs(t) {
		want, wantSize, wantEnd := readPlainly(slices.Clone(log))
		for _, spare := range []int{0, 1, 7, 200} {
			b := spared(log, spare)
			was := slices.Clone(b[:cap(b)])
			records, size, end := wal.Read(b)
			if !bytes.Equal(b[:cap(b)], was) {
				t.Error("what was handed in is changed")
			}
			scribble(b)
			if !slices.EqualFunc(records, want, bytes.Equal) || size != wantSize || end != wantEnd {
				t.Error("what was handed in is kept, or its spare room is seen")
			}
			b = spared(log, spare)
			records, _, _ = wal.Read(b)
			for _, r := range records {
				scribble(r)
			}
			if !bytes.Equal(b[:cap(b)], was) {
				t.Error("a record is what was handed in")
			}
		}
	}
}

// R4: no two records of an answer share memory, nor those of two answers, spare room too.
func TestRecordsShareNothing(t *testing.T) {
	for _, log := range logs(t) {
		want, _, _ := readPlainly(log)
		for i := range want {
			records, _, _ := wal.Read(log)
			others, _, _ := wal.Read(log)
			scribble(records[i])
			_ = append(records[i], "more bytes than there is spare room for, perhaps"...)
			for k := range want {
				if k != i && !bytes.Equal(records[k], want[k]) {
					t.Errorf("the record %d became % x by the record %d", k, records[k], i)
				}
			}
			all := records[:cap(records)]
			for k := range all {
				all[k] = []byte("spoilt")
			}
			if !slices.EqualFunc(others, want, bytes.Equal) {
				t.Error("two answers share memory")
			}
		}
	}
}

// R5: the same arguments are answered the same, whatever was asked between.
func TestAgain(t *testing.T) {
	for _, log := range logs(t) {
		want, wantSize, wantEnd := wal.Read(log)
		for _, other := range logs(t) {
			wal.Read(other)
			wal.Put(len(other), other)
			wal.Put(-1, other)
			wal.Put(0, make([]byte, api.MaxRecord+1))
			reads(t, "again", log, wantEnd, wantSize, want...)
			putsAs(t, len(other), log, laid(len(other), log))
		}
	}
}
