package wal_test

import (
	"bytes"
	"encoding/binary"
	"math/rand"
	"slices"
	"testing"

	"staddle/api"
	"staddle/wal"
)

// readPlainly is what the document says that a log is read as, by other means than the package's: each block is cut out of b first, and gone through by itself.
func readPlainly(b []byte) (records [][]byte, size, end int) {
	open := [][]byte(nil)
	for start := 0; start < len(b); start += 128 {
		block := b[start:min(start+128, len(b))]
		for at := 0; at < len(block) && at <= 121; {
			p := block[at:]
			if len(p) < 7 {
				return records, size, api.LTorn
			}
			n := int(binary.LittleEndian.Uint16(p[4:]))
			if at+7+n > 128 {
				return records, size, api.LCorrupt
			}
			if 7+n > len(p) {
				return records, size, api.LTorn
			}
			at += 7 + n
			kind, body := p[6], p[7:7+n]
			if !bytes.Equal(onePiece(kind, body), p[:7+n]) {
				if start+at == len(b) {
					return records, size, api.LTorn
				}
				return records, size, api.LCorrupt
			}
			if wanted := map[bool]string{false: "\x01\x02", true: "\x03\x04"}[open != nil]; bytes.IndexByte([]byte(wanted), kind) < 0 {
				return records, size, api.LCorrupt
			}
			open = append(open, body)
			if kind == 1 || kind == 4 {
				records, open, size = append(records, bytes.Join(open, nil)), nil, start+at
			}
		}
	}
	if open != nil {
		return records, size, api.LTorn
	}
	return records, size, api.LClean
}

// asPlainly tells a fault if a log is read otherwise than plainly, and tells how that ended.
func asPlainly(t *testing.T, b []byte) int {
	t.Helper()
	records, size, end := readPlainly(b)
	reads(t, "plainly", b, end, size, records...)
	return end
}

// P9.2: each byte of a log made others, with and without bytes behind it.
func TestEachByteChanged(t *testing.T) {
	for _, records := range [][][]byte{
		{[]byte("ab"), nil, []byte("c")}, {filled(113, 1), filled(2, 2)}, {filled(115, 1), []byte("ab"), filled(130, 2), nil},
	} {
		log, _ := lays(t, records...)
		for i := range log {
			for c := range 256 {
				other := slices.Clone(log)
				other[i] = byte(c)
				asPlainly(t, other)
			}
			for bit := range 8 {
				bad := turned(log, i, bit)
				asPlainly(t, bad[:i+1])
				asPlainly(t, append(bad, 0))
			}
		}
	}
}

// P9.2: a log in which bytes are missing, or are there twice.
func TestEachByteLostOrDoubled(t *testing.T) {
	log, _ := lays(t, []byte("ab"), filled(101, 1), filled(130, 2), nil, []byte("c"))
	for i := range log {
		for _, n := range []int{1, 2, 7, 8, 9, 128} {
			behind := min(i+n, len(log))
			asPlainly(t, join(log[:i], log[behind:]))
			asPlainly(t, join(log[:behind], log[i:]))
		}
	}
}

// anyPiece is a piece by chance, mostly one that may be there, for a place in a block.
func anyPiece(r *rand.Rand, left int, begun bool) []byte {
	kind := byte(1 + r.Intn(2))
	if begun {
		kind += 2
	}
	if r.Intn(25) == 0 {
		kind = byte(r.Intn(7))
	}
	n := r.Intn(left - 6)
	switch r.Intn(6) {
	case 0:
		n = left - 7
	case 1:
		n = max(0, left-7-r.Intn(9))
	case 2:
		n = 0
	}
	if r.Intn(60) == 0 {
		n = left - 6
	}
	b := onePiece(kind, filled(n, r.Intn(100)))
	if r.Intn(40) == 0 {
		b[r.Intn(len(b))] ^= 1 << r.Intn(8)
	}
	return b
}

// anyLog is a log of pieces by chance, perhaps cut.
func anyLog(r *rand.Rand) []byte {
	var b []byte
	begun := false
	for range r.Intn(12) {
		left := 128 - len(b)%128
		if left < 7 {
			b = append(b, filled(left, r.Intn(100))...)
			continue
		}
		p := anyPiece(r, left, begun)
		begun = p[6] == 2 || p[6] == 3
		b = append(b, p...)
	}
	if r.Intn(3) == 0 {
		b = b[:r.Intn(len(b)+1)]
	}
	return slices.Clip(b)
}

// P9.2: logs by chance are read as they are plainly, and all ends are among them.
func TestLogsByChance(t *testing.T) {
	r := rand.New(rand.NewSource(9))
	var ends [3]int
	for range 150000 {
		ends[asPlainly(t, anyLog(r))]++
	}
	for end, n := range ends {
		if n < 10000 {
			t.Errorf("only %d logs end %d", n, end)
		}
	}
}

// P9.2, W6: bytes by chance, made of little: each reading ends.
func TestBytesByChance(t *testing.T) {
	r := rand.New(rand.NewSource(10))
	for range 50000 {
		b := make([]byte, r.Intn(300))
		for i := range b {
			b[i] = []byte{0, 0, 1, 2, 0xff, byte(r.Intn(256))}[r.Intn(6)]
		}
		asPlainly(t, b)
	}
}

// P9.1 to P9.3: records by chance, laid and read, and cut by chance.
func TestRecordsByChance(t *testing.T) {
	r := rand.New(rand.NewSource(11))
	for range 3000 {
		var records [][]byte
		for range r.Intn(8) {
			records = append(records, filled([]int{r.Intn(20), r.Intn(130), r.Intn(600), 121 - r.Intn(16)}[r.Intn(4)], r.Intn(100)))
		}
		log, _ := lays(t, records...)
		reads(t, "laid", log, api.LClean, len(log), records...)
		cut := r.Intn(len(log) + 1)
		if end := asPlainly(t, log[:cut]); end == api.LCorrupt {
			t.Errorf("cut at %d: corrupt", cut)
		}
		// What was read whole can be gone on from: what is laid at its end is read.
		kept, size, _ := wal.Read(log[:cut])
		more := filled(r.Intn(300), 7)
		reads(t, "gone on", join(log[:size], puts(t, size, more)), api.LClean, size+len(puts(t, size, more)), append(kept, more)...)
	}
}
