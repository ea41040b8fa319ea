package wal_test

import (
	"bytes"
	"slices"
	"strings"
	"testing"

	"staddle/api"
)

// P9.2: whole and first ones where a record is begun, middle and last ones where none is: corrupt, at the end of b too.
func TestReadOfOrder(t *testing.T) {
	for _, c := range []struct {
		name  string
		b     []byte
		end   int
		size  int
		texts []string
	}{
		{"whole", text(1, "a"), api.LClean, 8, []string{"a"}},
		{"first", text(2, "a"), api.LTorn, 0, nil},
		{"middle", text(3, "a"), api.LCorrupt, 0, nil},
		{"last", text(4, "a"), api.LCorrupt, 0, nil},
		{"whole whole", join(text(1, "a"), text(1, "b")), api.LClean, 16, []string{"a", "b"}},
		{"whole first", join(text(1, "a"), text(2, "b")), api.LTorn, 8, []string{"a"}},
		{"whole middle", join(text(1, "a"), text(3, "b")), api.LCorrupt, 8, []string{"a"}},
		{"whole last", join(text(1, "a"), text(4, "b")), api.LCorrupt, 8, []string{"a"}},
		{"first whole", join(text(2, "a"), text(1, "b")), api.LCorrupt, 0, nil},
		{"first first", join(text(2, "a"), text(2, "b")), api.LCorrupt, 0, nil},
		{"first middle", join(text(2, "a"), text(3, "b")), api.LTorn, 0, nil},
		{"first last", join(text(2, "a"), text(4, "b")), api.LClean, 16, []string{"ab"}},
		{"first middle last", join(text(2, "a"), text(3, "b"), text(4, "c")), api.LClean, 24, []string{"abc"}},
		{"first middle whole", join(text(2, "a"), text(3, "b"), text(1, "c")), api.LCorrupt, 0, nil},
		{"first middle first", join(text(2, "a"), text(3, "b"), text(2, "c")), api.LCorrupt, 0, nil},
		{"first last last", join(text(2, "a"), text(4, "b"), text(4, "c")), api.LCorrupt, 16, []string{"ab"}},
		{"first last middle", join(text(2, "a"), text(4, "b"), text(3, "c")), api.LCorrupt, 16, []string{"ab"}},
		{"first last whole", join(text(2, "a"), text(4, "b"), text(1, "c")), api.LClean, 24, []string{"ab", "c"}},
		{"first last first last", join(text(2, "a"), text(4, "b"), text(2, "c"), text(4, "d")), api.LClean, 32, []string{"ab", "cd"}},
		{"whole first whole", join(text(1, "a"), text(2, "b"), text(1, "c")), api.LCorrupt, 8, []string{"a"}},
		{"whole first middle", join(text(1, "a"), text(2, "b"), text(3, "c")), api.LTorn, 8, []string{"a"}},
	} {
		readsText(t, c.name, c.b, c.end, c.size, c.texts...)
		if c.end == api.LCorrupt {
			readsText(t, c.name+", more behind", join(c.b, text(1, "x")), c.end, c.size, c.texts...)
		}
	}
}

// P9.2: pieces of no bytes: a record that is begun with none is begun.
func TestReadOfNone(t *testing.T) {
	none := func(kinds ...byte) (b []byte) {
		for _, k := range kinds {
			b = append(b, text(k, "")...)
		}
		return b
	}
	for _, c := range []struct {
		kinds string
		end   int
		size  int
		texts []string
	}{
		{"\x01", api.LClean, 7, []string{""}},
		{"\x01\x01\x01", api.LClean, 21, []string{"", "", ""}},
		{"\x02", api.LTorn, 0, nil},
		{"\x02\x04", api.LClean, 14, []string{""}},
		{"\x02\x03\x04", api.LClean, 21, []string{""}},
		{"\x02\x03\x03", api.LTorn, 0, nil},
		{"\x02\x01", api.LCorrupt, 0, nil},
		{"\x02\x02", api.LCorrupt, 0, nil},
		{"\x02\x03\x02", api.LCorrupt, 0, nil},
		{"\x03", api.LCorrupt, 0, nil},
		{"\x04", api.LCorrupt, 0, nil},
		{"\x01\x02\x04\x01\x04", api.LCorrupt, 28, []string{"", "", ""}},
	} {
		readsText(t, c.kinds, none([]byte(c.kinds)...), c.end, c.size, c.texts...)
	}
	readsText(t, "none ahead and behind", join(none(2, 3), text(3, "ab"), none(3, 4)), api.LClean, 37, "ab")
}

// P9.2: which records and how many bytes are told beside each end: those up to the last whole record.
func TestReadTellsWhatWasWhole(t *testing.T) {
	big := filled(300, 2)
	log, ends := lays(t, []byte("ab"), big, nil, []byte("c"))
	records := [][]byte{[]byte("ab"), big, {}, []byte("c")}
	if len(log)%128 > 100 {
		t.Fatal("there is no room in the block for what comes behind")
	}
	reads(t, "all", log, api.LClean, ends[3], records...)
	for name, c := range map[string]struct {
		more []byte
		end  int
	}{
		"a beginning":      {text(2, "d"), api.LTorn},
		"two of a record":  {join(text(2, "d"), text(3, "e")), api.LTorn},
		"a cut one":        {text(1, "d")[:7], api.LTorn},
		"a wrong sum":      {turned(text(1, "d"), 0, 0), api.LTorn},
		"a wrong sum, on":  {join(turned(text(1, "d"), 0, 0), text(1, "e")), api.LCorrupt},
		"a kind":           {text(5, "d"), api.LCorrupt},
		"a last one":       {text(4, "d"), api.LCorrupt},
		"first and first":  {join(text(2, "d"), text(2, "e")), api.LCorrupt},
		"first and wrong":  {join(text(2, "d"), text(6, "e"), text(1, "f")), api.LCorrupt},
		"too long for all": {sized(65535, nil), api.LCorrupt},
	} {
		reads(t, name, join(log, c.more), c.end, ends[3], records...)
	}
}

// P9.2: what comes behind a fault is not read any more.
func TestReadEndsAtAFault(t *testing.T) {
	block := join(text(5, "ab"), make([]byte, 119))
	reads(t, "a good block behind", join(block, wholeBlocks(2)), api.LCorrupt, 0)
	reads(t, "a good block ahead", join(wholeBlocks(1), block, wholeBlocks(2)), api.LCorrupt, 128, filled(121, 5))
}

// P9.2: a record may have more pieces, and more bytes, than Put would lay.
func TestReadOfLongRecords(t *testing.T) {
	log := onePiece(2, filled(121, 1))
	record := filled(121, 1)
	for i := range 1500 {
		log = append(log, onePiece(3, filled(121, i))...)
		record = append(record, filled(121, i)...)
	}
	if len(record) <= api.MaxRecord {
		t.Fatal("the record is not longer than Put's")
	}
	reads(t, "without its end", log, api.LTorn, 0)
	log = append(log, text(4, "end")...)
	record = append(record, "end"...)
	reads(t, "longer than Put's", log, api.LClean, len(log), record)
	reads(t, "longer than Put's, and one behind", join(log, text(1, "x")), api.LClean, len(log)+8, record, []byte("x"))
	var small []byte
	for i := range 16 {
		small = append(small, text([]byte{2, 3, 3, 4}[i%4], strings.Repeat("x", i%2))...)
	}
	readsText(t, "many pieces in one block", small, api.LClean, len(small), "xx", "xx", "xx", "xx")
}

// P9.3: what is laid, one behind the other, is read, in order; cut at each byte, those that are whole are read, clean or torn.
func TestLaidIsRead(t *testing.T) {
	for _, sizes := range [][]int{
		{0}, {2}, {121}, {122}, {300}, {0, 0, 0}, {114, 0, 5}, {114, 1, 5}, {113, 0, 5}, {115, 3, 0}, {119, 3}, {120, 3},
		{121, 121, 0, 121}, {112, 500, 1}, {1, 2, 3, 4, 5, 6, 7, 8, 9, 10, 11, 12}, {107, 0, 0, 0}, {106, 0, 0, 0}, {1000, 0, 1000},
	} {
		records := make([][]byte, len(sizes))
		for i, n := range sizes {
			records[i] = filled(n, i)
		}
		cutsAreRead(t, records)
	}
	// Every place of the first block at which the second record may begin.
	for n := range 130 {
		cutsAreRead(t, [][]byte{filled(n, 1), []byte("ab"), filled(130, 2)})
	}
	// Records that are noughts, or logs themselves, or kinds.
	log, _ := lays(t, filled(200, 1), []byte("ab"))
	cutsAreRead(t, [][]byte{make([]byte, 150), log, bytes.Repeat([]byte{1}, 140), slices.Repeat([]byte{0xff}, 130)})
}

// cutsAreRead tells a fault if a log of records, cut anywhere, is read otherwise than P9.2 and P9.3 say.
func cutsAreRead(t *testing.T, records [][]byte) {
	t.Helper()
	log, ends := lays(t, records...)
	reads(t, "whole", log, api.LClean, len(log), records...)
	for cut := range log {
		n, size := 0, 0
		for n < len(ends) && ends[n] <= cut {
			size = ends[n]
			n++
		}
		// Clean: nothing stands behind the last whole record but noughts up to a block's end.
		end := api.LTorn
		if cut == size || size%128 > 121 && cut <= size/128*128+128 {
			end = api.LClean
		}
		reads(t, "cut", log[:cut:cut], end, size, records[:n]...)
		// Bytes that b does not have, in its spare room, are not read.
		reads(t, "cut, with the rest as spare room", log[:cut], end, size, records[:n]...)
	}
}

// P9.3: the greatest record is read, alone and between others, and torn where its last byte is missing.
func TestGreatestIsRead(t *testing.T) {
	big := filled(api.MaxRecord, 3)
	for _, head := range [][]byte{nil, filled(113, 1), filled(114, 1), filled(115, 1)} {
		log, ends := lays(t, head, big, []byte("ab"))
		reads(t, "the greatest", log, api.LClean, len(log), head, big, []byte("ab"))
		reads(t, "the greatest, cut", log[:ends[1]-1], api.LTorn, ends[0], head)
		reads(t, "the greatest, turned", turned(log, ends[1]-1, 3), api.LCorrupt, ends[0], head)
	}
}

// P9.3: many records of each length.
func TestManyAreRead(t *testing.T) {
	var records [][]byte
	for n := range 600 {
		records = append(records, filled(n*7%601, n))
	}
	log, _ := lays(t, records...)
	reads(t, "many", log, api.LClean, len(log), records...)
}
