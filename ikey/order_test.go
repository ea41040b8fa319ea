package ikey_test

import (
	"math"
	"slices"
	"strings"
	"testing"

	"staddle/api"
	"staddle/ikey"
)

// P2.3: pairs that are written out, each asked both ways.
func TestCompare(t *testing.T) {
	long := strings.Repeat("x", 200)
	for _, c := range []struct {
		a, b api.IKey
		want int
	}{
		{key("a", 2, 0), key("a", 1, 0), -1},
		{key("a", 1, 0), key("ab", 9, 0), -1},
		{key("a", 0, 0), key("b", 0, 0), -1},
		{key("", 0, 0), key("\x00", 9, 1), -1},
		{key("a", 0, 0), key("a\x00", 9, 1), -1},
		{key("ab", 0, 0), key("b", 9, 1), -1},
		{key("\x7f", 0, 0), key("\x80", 9, 1), -1},
		{key("z", 0, 0), key("\xff", 9, 1), -1},
		{key("\xff", 0, 0), key("\xff\x00", 9, 1), -1},
		{key("Z", 0, 0), key("a", 9, 1), -1},
		{key("10", 0, 0), key("9", 9, 1), -1},
		{key("a", 1<<56-1, 0), key("a", 1<<56-2, 1), -1},
		{key("a", 256, 0), key("a", 255, 1), -1},
		{key("a", 1, 1), key("a", 1, 0), -1},
		{key("a", 1, 1), key("a", 1, 1), 0},
		{key("a", 1, 0), key("a", 1, 0), 0},
		{key("", 0, 0), key("", 0, 0), 0},
		// Keys that may not be have their place too.
		{key("a", math.MaxUint64, 0), key("a", 1, 1), -1},
		{key("a", 1<<63, 0), key("a", 1<<63-1, 1), -1},
		{key("a", 1, 2), key("a", 1, 1), -1},
		{key("a", 1, 0), key("a", 1, -1), -1},
		{key("a", 1, math.MaxInt), key("a", 1, math.MinInt), -1},
		{key("a", 1, 1), key("a", 1, math.MinInt), -1},
		{key(long, 1, 0), key(long+"a", 2, 0), -1},
		{key(long+"a", 1, 0), key(long+"b", 2, 0), -1},
		{key(long, 1, 7), key(long, 1, 7), 0},
	} {
		if n := ikey.Compare(c.a, c.b); n != c.want {
			t.Errorf("%#v and %#v: %d", c.a, c.b, n)
		}
		if n := ikey.Compare(c.b, c.a); n != -c.want {
			t.Errorf("%#v and %#v: %d", c.b, c.a, n)
		}
	}
}

// line is keys that may be, in the order that the document asks: users rising, numbers falling, puts ahead of deletes.
func line() []api.IKey {
	var l []api.IKey
	for _, user := range []string{"", "\x00", "\x00\x00", "\x00\xff", "A", "a", "a\x00", "aa", "a\xff", "b", "\x80", "\xff", "\xff\x00", "\xff\xff", strings.Repeat("\xff", 64)} {
		for _, seq := range []uint64{1<<56 - 1, 1<<56 - 2, 1 << 32, 1<<32 - 1, 256, 255, 1, 0} {
			l = append(l, key(user, seq, api.Put), key(user, seq, api.Delete))
		}
	}
	return l
}

// P2.3 and P2.5: keys that may be stand in one line, and two are 0 just if they are the same.
func TestKeysStandInOneLine(t *testing.T) {
	l := line()
	for i, a := range l {
		if err := ikey.Check(a); err != api.OK {
			t.Errorf("%#v may not be: %d", a, err)
		}
		for j, b := range l {
			want := 0
			if i < j {
				want = -1
			} else if i > j {
				want = 1
			}
			if n := ikey.Compare(a, b); n != want || (n == 0) != (a == b) {
				t.Errorf("%#v and %#v: %d", a, b, n)
			}
		}
	}
}

// P2.5: sorted by Compare, whatever order they came in, keys stand in that line.
func TestSortedKeys(t *testing.T) {
	want := line()
	for step := 1; step < len(want); step += 2 {
		got := make([]api.IKey, len(want))
		// 240 keys: an odd step leads through all of them just if neither 3 nor 5 divides it.
		if step%3 == 0 || step%5 == 0 {
			continue
		}
		for i := range want {
			got[i] = want[i*step%len(want)]
		}
		slices.SortFunc(got, ikey.Compare)
		if !slices.Equal(got, want) {
			t.Errorf("in steps of %d: another line", step)
		}
	}
}

// P2.4: texts that are written out.
func TestBetween(t *testing.T) {
	for _, c := range []struct{ a, b, want string }{
		{"abc", "abf", "abd"},
		{"abc", "abd", "abc"},
		{"abc", "abe", "abd"},
		{"ab", "abc", "ab"},
		{"abc", "ab", "abc"},
		{"abc", "abc", "abc"},
		{"", "", ""},
		{"", "a", ""},
		{"a", "", "a"},
		{"a", "c", "b"},
		{"a", "b", "a"},
		{"b", "a", "b"},
		{"c", "a", "c"},
		{"apple", "cherry", "b"},
		{"axxx", "ayyy", "axxx"},
		{"axxx", "azzz", "ay"},
		{"a\xff", "b", "a\xff"},
		{"a\xffc", "c", "b"},
		{"\x00", "\x01", "\x00"},
		{"\x00", "\x02", "\x01"},
		{"\x00", "\xff", "\x01"},
		{"\x7fq", "\x81", "\x80"},
		{"\xfd", "\xff", "\xfe"},
		{"\xfdz", "\xff\xff", "\xfe"},
		{"\xfe", "\xff", "\xfe"},
		{"\xff", "\x01", "\xff"},
		{"\xff", "\x02", "\xff"},
		{"\xff\xff", "\xffa", "\xff\xff"},
		{"\xff\xff", "\xff", "\xff\xff"},
		{"\xff", "\xff\xff", "\xff"},
		{"\xffa", "\xff\xff", "\xffb"},
		{strings.Repeat("x", 1000) + "a" + strings.Repeat("y", 1000), strings.Repeat("x", 1000) + "c", strings.Repeat("x", 1000) + "b"},
	} {
		if s := ikey.Between(c.a, c.b); s != c.want {
			t.Errorf("%.20q and %.20q: %.20q", c.a, c.b, s)
		}
	}
}

// P2.4: texts that are written out.
func TestBehind(t *testing.T) {
	for _, c := range []struct{ a, want string }{
		{"abc", "b"},
		{"", ""},
		{"a", "b"},
		{"\x00", "\x01"},
		{"\x00\xff", "\x01"},
		{"\x7f", "\x80"},
		{"\xfe", "\xff"},
		{"\xfe\xff", "\xff"},
		{"\xff", "\xff"},
		{"\xff\xff", "\xff\xff"},
		{"\xffa", "\xffb"},
		{"\xff\xffabc", "\xff\xffb"},
		{"\xff\x00\xff", "\xff\x01"},
		{strings.Repeat("\xff", 1000), strings.Repeat("\xff", 1000)},
		{strings.Repeat("\xff", 1000) + "\xfeaa", strings.Repeat("\xff", 1001)},
	} {
		if s := ikey.Behind(c.a); s != c.want {
			t.Errorf("%.20q: %.20q", c.a, s)
		}
	}
}

// short are all texts of up to three bytes that stand close to one another and at the ends.
func short() []string {
	l := []string{""}
	for from := 0; len(l) < 1+7+49+343; {
		end := len(l)
		for _, s := range l[from:end] {
			for _, c := range []byte{0, 1, 2, 0x61, 0xfd, 0xfe, 0xff} {
				l = append(l, s+string([]byte{c}))
			}
		}
		from = end
	}
	return l
}

// plainBetween asks the document's words in their order.
func plainBetween(a, b string) string {
	if strings.HasPrefix(a, b) || strings.HasPrefix(b, a) {
		return a
	}
	d := 0
	for a[d] == b[d] {
		d++
	}
	if a[d] == 255 || int(a[d])+1 >= int(b[d]) {
		return a
	}
	bytes := []byte(a)[:d+1]
	bytes[d]++
	return string(bytes)
}

// P2.4 and P2.5: of all short texts.
func TestBetweenOfAll(t *testing.T) {
	for _, a := range short() {
		for _, b := range short() {
			s := ikey.Between(a, b)
			if s != plainBetween(a, b) {
				t.Fatalf("%q and %q: %q", a, b, s)
			}
			if a > s || a < b && s >= b || len(s) > len(a) {
				t.Fatalf("%q and %q: %q does not stand between", a, b, s)
			}
		}
	}
}

// P2.4: of all short texts; what is behind one is not less, and is it only where no byte can be raised.
func TestBehindOfAll(t *testing.T) {
	for _, a := range short() {
		s := ikey.Behind(a)
		rest := a
		for strings.HasPrefix(rest, "\xff") {
			rest = rest[1:]
		}
		want := a
		if rest != "" {
			want = strings.Repeat("\xff", len(a)-len(rest)) + string([]byte{rest[0] + 1})
		}
		if s != want {
			t.Fatalf("%q: %q", a, s)
		}
		if a > s || (a == s) != (rest == "") || len(s) > len(a) {
			t.Fatalf("%q: %q does not stand behind", a, s)
		}
	}
}
