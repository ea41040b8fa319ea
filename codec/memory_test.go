package codec_test

import (
	"bytes"
	"testing"

	"staddle/api"
	"staddle/codec"
)

// layers are the calls that lay bytes behind b, those of wrong sizes too.
func layers() map[string]func(b []byte) []byte {
	return map[string]func(b []byte) []byte{
		"PutUvarint of 0":   func(b []byte) []byte { return codec.PutUvarint(b, 0) },
		"PutUvarint of 300": func(b []byte) []byte { return codec.PutUvarint(b, 300) },
		"PutUvarint of all": func(b []byte) []byte { return codec.PutUvarint(b, 1<<64-1) },
		"PutFixed of 1":     func(b []byte) []byte { return codec.PutFixed(b, 0x55, 1) },
		"PutFixed of 8":     func(b []byte) []byte { return codec.PutFixed(b, 1<<64-1, 8) },
		"PutFixed of 0":     func(b []byte) []byte { return codec.PutFixed(b, 7, 0) },
		"PutFixed of 9":     func(b []byte) []byte { return codec.PutFixed(b, 7, 9) },
		"PutFixed of -1":    func(b []byte) []byte { return codec.PutFixed(b, 7, -1) },
		"PutText of none":   func(b []byte) []byte { return codec.PutText(b, "") },
		"PutText of some":   func(b []byte) []byte { return codec.PutText(b, "some text") },
	}
}

// filled is n bytes, with spare room behind them, all of them told apart.
func filled(n, spare int) []byte {
	whole := make([]byte, n+spare)
	for i := range whole {
		whole[i] = byte(0xA0 + i)
	}
	return whole[:n]
}

// scribble writes over all that a list has, its spare room too.
func scribble(b []byte) {
	whole := b[:cap(b)]
	for i := range whole {
		whole[i] = 0x33
	}
}

// R4: what is handed in is not changed, and the answer shares nothing with it, the spare room of both included.
func TestLayingIsNewMemory(t *testing.T) {
	for name, lay := range layers() {
		for _, n := range []int{0, 1, 5} {
			for _, spare := range []int{0, 1, 3, 64} {
				b := filled(n, spare)
				was := bytes.Clone(b[:cap(b)])
				out := lay(b)
				if !bytes.Equal(b[:cap(b)], was) {
					t.Errorf("%s: what was handed in is changed", name)
				}
				scribble(out)
				if !bytes.Equal(b[:cap(b)], was) {
					t.Errorf("%s: the answer is what was handed in", name)
				}
				want := lay(b)
				out = lay(b)
				scribble(b)
				if !bytes.Equal(out, want) {
					t.Errorf("%s: what was handed in is kept", name)
				}
			}
		}
	}
}

// R4: two answers share nothing, though one was handed in for both.
func TestAnswersShareNothing(t *testing.T) {
	for name, lay := range layers() {
		b := codec.PutUvarint(nil, 300)
		first := lay(b)
		want := bytes.Clone(first)
		scribble(lay(b))
		scribble(b)
		if !bytes.Equal(first, want) {
			t.Errorf("%s: answers share memory", name)
		}
	}
}

// R5: what is answered does not hang on spare room; R4: a list without elements may be nil or not.
func TestSpareRoomIsNotSeen(t *testing.T) {
	for name, lay := range layers() {
		want := lay(nil)
		for _, b := range [][]byte{{}, filled(0, 3), filled(0, 64)} {
			if !bytes.Equal(lay(b), want) {
				t.Errorf("%s: another answer with spare room of %d", name, cap(b))
			}
		}
	}
}

// R4: reading and summing change nothing, and a text that was read stays.
func TestReadingChangesNothing(t *testing.T) {
	b := codec.PutText(nil, "some text")
	was := bytes.Clone(b[:cap(b)])
	codec.Uvarint(b)
	codec.Fixed(b, 8)
	codec.Crc(b)
	s, _, err := codec.Text(b)
	if !bytes.Equal(b[:cap(b)], was) {
		t.Error("what was handed in is changed")
	}
	scribble(b)
	if s != "some text" || err != api.OK {
		t.Errorf("the text became %q", s)
	}
}
