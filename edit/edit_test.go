package edit_test

import (
	"bytes"
	"encoding/binary"
	"slices"
	"strings"
	"testing"

	"staddle/api"
	"staddle/edit"
)

const (
	topNum  = 1 << 40
	topSeq  = 1<<56 - 1
	topSize = 1<<31 - 1
)

// put is a key that puts.
func put(user string, seq uint64) api.IKey { return api.IKey{User: user, Seq: seq, Kind: api.Put} }

// del is a key that deletes.
func del(user string, seq uint64) api.IKey { return api.IKey{User: user, Seq: seq, Kind: api.Delete} }

// file is a file that may be.
func file(level int, num uint64) api.File {
	return api.File{Level: level, Num: num, Size: 100, Small: put("a", 2), Large: put("b", 1)}
}

// dels is an edit of files that are gone.
func dels(l ...api.Gone) api.Edit { return api.Edit{Dels: l} }

// adds is an edit of files that are added.
func adds(l ...api.File) api.Edit { return api.Edit{Adds: l} }

// manyGone are n files that are gone.
func manyGone(n int) []api.Gone {
	l := make([]api.Gone, n)
	for i := range l {
		l[i] = api.Gone{Level: i % 4, Num: uint64(i + 1)}
	}
	return l
}

// manyFiles are n files.
func manyFiles(n int) []api.File {
	l := make([]api.File, n)
	for i := range l {
		l[i] = file(i%4, uint64(i+1))
	}
	return l
}

// numbers are numbers as bytes.
func numbers(l ...uint64) []byte {
	var b []byte
	for _, n := range l {
		b = binary.AppendUvarint(b, n)
	}
	return b
}

// keyBytes are a key's bytes, whether it may be or not.
func keyBytes(k api.IKey) []byte {
	return binary.LittleEndian.AppendUint64([]byte(k.User), k.Seq*256+uint64(k.Kind))
}

// textBytes are the bytes of a text, its length ahead.
func textBytes(b []byte) []byte { return append(numbers(uint64(len(b))), b...) }

// fileBytes are a file's bytes, whether it may be or not.
func fileBytes(f api.File) []byte {
	return slices.Concat(numbers(uint64(f.Level), f.Num, uint64(f.Size)), textBytes(keyBytes(f.Small)), textBytes(keyBytes(f.Large)))
}

// laid are an edit's bytes as the document tells them, whether it may be or not.
func laid(x api.Edit) []byte {
	b := numbers(x.Log, x.Next, x.Last, uint64(len(x.Dels)))
	for _, g := range x.Dels {
		b = append(b, numbers(uint64(g.Level), g.Num)...)
	}
	b = append(b, numbers(uint64(len(x.Adds)))...)
	for _, f := range x.Adds {
		b = append(b, fileBytes(f)...)
	}
	return b
}

// alike tells whether two edits are the same.
func alike(x, y api.Edit) bool {
	return x.Log == y.Log && x.Next == y.Next && x.Last == y.Last && slices.Equal(x.Dels, y.Dels) && slices.Equal(x.Adds, y.Adds)
}

// may tells a fault unless an edit may be, is laid as the document tells, and read again.
func may(t testing.TB, what string, x api.Edit) {
	t.Helper()
	if err := edit.Check(x); err != api.OK {
		t.Errorf("%s: Check answers %d", what, err)
	}
	want := laid(x)
	if b, err := edit.Encode(x); !bytes.Equal(b, want) || err != api.OK {
		t.Errorf("%s: Encode answers % .40x, %d, not % .40x", what, b, err, want)
	}
	reads(t, what, want, x)
}

// reads tells a fault unless bytes are read as an edit.
func reads(t testing.TB, what string, b []byte, want api.Edit) {
	t.Helper()
	if x, err := edit.Decode(b); !alike(x, want) || err != api.OK {
		t.Errorf("%s: Decode of % .40x answers %+v, %d", what, b, x, err)
	}
}

// mayNot tells a fault unless an edit is refused by an error, and its bytes are no edit's.
func mayNot(t testing.TB, what string, x api.Edit, want api.Errno) {
	t.Helper()
	if err := edit.Check(x); err != want {
		t.Errorf("%s: Check answers %d, not %d", what, err, want)
	}
	if b, err := edit.Encode(x); len(b) != 0 || err != want {
		t.Errorf("%s: Encode answers % .40x, %d, not %d", what, b, err, want)
	}
	none(t, what, laid(x))
}

// none tells a fault unless bytes are no edit's.
func none(t testing.TB, what string, b []byte) {
	t.Helper()
	if x, err := edit.Decode(b); !alike(x, api.Edit{}) || err != api.ErrEditForm {
		t.Errorf("%s: Decode of % .40x answers %+v, %d", what, b, x, err)
	}
}

// The section "Errors": the numbers are api's.
func TestErrorNumbers(t *testing.T) {
	if api.ErrKeyLong != 21 || api.ErrKeySeq != 22 || api.ErrKeyKind != 23 {
		t.Error("a key's error has another number than the document's")
	}
	if api.ErrEditLevel != 130 || api.ErrEditMany != 131 || api.ErrEditFile != 132 || api.ErrEditForm != 133 {
		t.Error("an edit's error has another number than the document's")
	}
}

// The section "Types", and the limits that P13.1 names.
func TestTypes(t *testing.T) {
	gone := api.Gone{Level: 1, Num: 2}
	added := api.File{Level: 3, Num: 4, Size: 5, Small: put("a", 6), Large: put("b", 7)}
	may(t, "all fields", api.Edit{Log: 8, Next: 9, Last: 10, Dels: []api.Gone{gone}, Adds: []api.File{added}})
	if api.MaxDels != 20000 || api.MaxFiles != 100 || api.MaxNum != 1<<40 || api.Levels != 4 {
		t.Error("a limit is another one than the document's")
	}
}

// The section "Examples".
func TestExamples(t *testing.T) {
	if b, err := edit.Encode(api.Edit{}); !bytes.Equal(b, []byte{0, 0, 0, 0, 0}) || err != api.OK {
		t.Errorf("nothing: % x, %d", b, err)
	}
	x := api.Edit{Log: 3, Dels: []api.Gone{{Level: 1, Num: 300}}}
	want := []byte{3, 0, 0, 1, 1, 0xAC, 2, 0}
	if b, err := edit.Encode(x); !bytes.Equal(b, want) || err != api.OK {
		t.Errorf("a file that is gone: % x, %d", b, err)
	}
	reads(t, "nothing", []byte{0, 0, 0, 0, 0}, api.Edit{})
	reads(t, "a file that is gone", want, x)
	for _, c := range []struct {
		level int
		num   uint64
		size  int
		want  api.Errno
	}{{4, 1, 1, api.ErrEditLevel}, {0, 0, 1, api.ErrEditFile}, {0, 1, 0, api.ErrEditFile}} {
		f := api.File{Level: c.level, Num: c.num, Size: c.size, Small: put("a", 1), Large: put("a", 1)}
		if err := edit.Check(adds(f)); err != c.want {
			t.Errorf("%+v: %d", f, err)
		}
	}
}

// R1: edits and bytes of all kinds, hand-made ones too, are answered.
func TestWrongInputs(t *testing.T) {
	none(t, "nil", nil)
	none(t, "no bytes", []byte{})
	mayNot(t, "an empty file that is gone", dels(api.Gone{}), api.ErrEditFile)
	mayNot(t, "an empty file", adds(api.File{}), api.ErrEditFile)
	may(t, "empty lists", api.Edit{Dels: []api.Gone{}, Adds: []api.File{}})
	f := file(0, 1)
	f.Small.User = strings.Repeat("x", 1<<20)
	mayNot(t, "a user of a million bytes", adds(f), api.ErrKeyLong)
}
