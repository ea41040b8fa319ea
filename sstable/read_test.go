package sstable_test

import (
	"slices"
	"testing"

	"staddle/api"
)

// withBlock is a table with another block in place of one, of which the index tells the last key and the place.
func withBlock(m made, i int, body []byte) made {
	m.blocks, m.index = slices.Clone(m.blocks), slices.Clone(m.index)
	m.blocks[i] = body
	at := 0
	for k, b := range m.blocks {
		m.index[k].Value = placeText(at, len(b))
		at += len(b) + 4
	}
	return m
}

// P12.3: each byte of a block is summed, and so is the sum itself: whichever bit is turned, it is ErrTableSum, and nothing else.
func TestBlockSums(t *testing.T) {
	m, at := three()
	l := numbered(6)
	b := m.bytes()
	for i := range at[3] {
		which := 0
		for i >= at[which+1] {
			which++
		}
		for bit := range 8 {
			other := slices.Clone(b)
			other[i] ^= 1 << bit
			x := opens(t, other)
			if x.Blocks() != 3 {
				t.Fatalf("Blocks is %d", x.Blocks())
			}
			broken(t, "a bit turned", x, api.ErrTableSum)
			for k, e := range l {
				if k/2 == which {
					fails(t, x, e.Key.User, e.Key.Seq, api.ErrTableSum)
				} else {
					value, what := known(l, e.Key.User, e.Key.Seq)
					gets(t, x, e.Key.User, e.Key.Seq, value, what)
				}
			}
		}
	}
}

// wrongBlocks are bytes that are no block, that have no entries, or whose last key is not the last one of entries.
func wrongBlocks(l []api.KV) map[string][]byte {
	right := blockOf(l, 2)
	n := len(l) - 1
	last := func(change func(*api.KV)) []byte {
		other := slices.Clone(l)
		change(&other[n])
		return blockOf(other, 2)
	}
	return map[string][]byte{
		"no bytes":              {},
		"a byte":                {1},
		"a text":                []byte("no block"),
		"cut":                   right[:len(right)-1],
		"cut ahead":             right[1:],
		"a byte behind":         append(slices.Clone(right), 0),
		"twice":                 slices.Concat(right, right),
		"with a sum":            append(slices.Clone(right), sumBytes(right)...),
		"no entries":            blockOf(nil, 1),
		"no entries, by 16":     blockOf(nil, 16),
		"the last left out":     blockOf(l[:n], 2),
		"one more":              blockOf(append(slices.Clone(l), put("zz", 1, "")), 2),
		"another user":          last(func(e *api.KV) { e.Key.User += "a" }),
		"a lesser number":       last(func(e *api.KV) { e.Key.Seq-- }),
		"another kind":          last(func(e *api.KV) { e.Key.Kind = 1 - e.Key.Kind }),
		"another user's number": last(func(e *api.KV) { e.Key = api.IKey{User: "zz", Seq: e.Key.Seq, Kind: e.Key.Kind} }),
	}
}

// P12.3: blocks whose sums are right, but that are none, have no entries, or whose last key is not the index'.
func TestWrongBlocks(t *testing.T) {
	m, _ := three()
	l := numbered(6)
	for i := range 3 {
		for name, body := range wrongBlocks(l[2*i : 2*i+2]) {
			wrong := withBlock(m, i, body)
			x := opens(t, wrong.bytes())
			broken(t, name, x, api.ErrTableForm)
			for k, e := range l {
				if k/2 == i {
					fails(t, x, e.Key.User, e.Key.Seq, api.ErrTableForm)
				} else {
					value, what := known(l, e.Key.User, e.Key.Seq)
					gets(t, x, e.Key.User, e.Key.Seq, value, what)
				}
			}
		}
	}
}

// P12.3, R2: a sum that is wrong comes ahead of all else that is wrong of a block.
func TestSumAheadOfForm(t *testing.T) {
	m, _ := three()
	l := numbered(6)
	for name, body := range wrongBlocks(l[:2]) {
		b := withBlock(m, 0, body).bytes()
		b[len(body)] ^= 1
		x := opens(t, b)
		broken(t, name, x, api.ErrTableSum)
		fails(t, x, l[0].Key.User, l[0].Key.Seq, api.ErrTableSum)
	}
}

// P12.3: a block may be laid with any interval, each with its own, and the kinds of the index' keys are either.
func TestBlocksOfAnyInterval(t *testing.T) {
	l := numbered(6)
	for interval := 1; interval <= 16; interval++ {
		m, _ := three()
		for i := range 3 {
			m = withBlock(m, i, blockOf(l[2*i:2*i+2], (interval+i)%16+1))
		}
		x := opens(t, m.bytes())
		holds(t, x, l)
		for _, e := range l {
			value, what := known(l, e.Key.User, e.Key.Seq)
			gets(t, x, e.Key.User, e.Key.Seq, value, what)
		}
	}
}

// P12.3: a block's last key is the index' also where the index' is further behind, though the blocks would rise.
func TestIndexKeyBehindTheLast(t *testing.T) {
	l := []api.KV{put("a", 1, "x"), put("c", 1, "y")}
	for name, k := range map[string]api.IKey{
		"between":            {User: "b", Seq: 1, Kind: 1},
		"the number is less": {User: "a", Seq: 0, Kind: 1},
		"the kind is less":   {User: "a", Seq: 1, Kind: 0},
		"the number is more": {User: "a", Seq: 2, Kind: 1},
		"a beginning":        {User: "", Seq: 1, Kind: 1},
	} {
		m := handMade(1, l[:1], l[1:])
		m.index[0].Key = k
		m.filter = nil
		x := opens(t, m.bytes())
		broken(t, name, x, api.ErrTableForm)
		gets(t, x, "c", 1, "y", api.There)
		fails(t, x, "", 1, api.ErrTableForm)
	}
}

// P12.3: a block has entries, also where the index' key is the one that has nothing in it.
func TestNoEntriesUnderTheEmptyKey(t *testing.T) {
	for interval := 1; interval <= 16; interval++ {
		m := withBlock(handMade(1, []api.KV{del("", 0)}), 0, blockOf(nil, interval))
		for _, count := range []int{0, 1} {
			m.count = count
			x := opens(t, m.bytes())
			broken(t, "no entries", x, api.ErrTableForm)
			fails(t, x, "", 0, api.ErrTableForm)
		}
	}
	x := opens(t, handMade(1, []api.KV{del("", 0)}).bytes())
	holds(t, x, []api.KV{del("", 0)})
	gets(t, x, "", 0, "", api.Deleted)
}

// P12.4: blocks that do not rise from one to the next, though each does, and their last keys do.
func TestBlocksThatDoNotRise(t *testing.T) {
	a, b, c, d := put("a", 5, "1"), put("b", 5, "2"), put("c", 5, "3"), put("d", 5, "4")
	for name, lists := range map[string][][]api.KV{
		"one between":           {{a, c}, {b, d}},
		"the same":              {{a, b}, {b, c}},
		"the first again":       {{a, b}, {a, c}},
		"a greater number":      {{a, b}, {put("b", 6, ""), c}},
		"a greater kind":        {{a, del("b", 5)}, {b, c}},
		"the same, other value": {{a, b}, {put("b", 5, "other"), c}},
		"the third":             {{a}, {b}, {b, c}},
		"the third, by one":     {{a}, {b, c}, {b, d}},
	} {
		x := opens(t, handMade(1, lists...).bytes())
		if n := x.Blocks(); n != len(lists) {
			t.Errorf("%s: %d blocks", name, n)
		}
		broken(t, name, x, api.ErrTableForm)
	}
	for _, lists := range [][][]api.KV{
		{{a, b}, {c, d}}, {{a}, {b}, {c}, {d}}, {{a, b}, {put("b", 4, ""), c}}, {{a, b}, {del("b", 5), c}}, {{a, put("b", 6, "")}, {b}},
	} {
		holds(t, opens(t, handMade(1, lists...).bytes()), slices.Concat(lists...))
	}
}

// P12.4: another count of entries than there are, also where they are as many as blocks.
func TestCountsOfEntries(t *testing.T) {
	for n := 1; n < 20; n++ {
		m := laid(numbered(n), usual)
		for count := range 40 {
			m.count = count
			if count == n {
				holds(t, opens(t, m.bytes()), numbered(n))
			} else {
				broken(t, "a count", opens(t, m.bytes()), api.ErrTableForm)
			}
		}
	}
}

// P12.4, R2: which error comes first: block by block, each one's own, then its order; the count at the end.
func TestWhichErrorOfAll(t *testing.T) {
	a, b, c, d := put("a", 5, "1"), put("b", 5, "2"), put("c", 5, "3"), put("d", 5, "4")
	turned := func(m made, blocks ...int) []byte {
		out := m.bytes()
		at := 0
		for i, body := range m.blocks {
			if slices.Contains(blocks, i) {
				out[at] ^= 1
			}
			at += len(body) + 4
		}
		return out
	}
	good := handMade(1, []api.KV{a, b}, []api.KV{c}, []api.KV{d})
	badOrder := handMade(1, []api.KV{a, c}, []api.KV{b, d}, []api.KV{put("e", 1, "")})
	badForm := withBlock(good, 1, []byte("none"))
	badCount := good
	badCount.count++
	for _, c := range []struct {
		name string
		b    []byte
		want api.Errno
	}{
		{"a sum, and the order behind it", turned(badOrder, 0), api.ErrTableSum},
		{"a sum, and its order", turned(badOrder, 1), api.ErrTableSum},
		{"an order, and a sum behind it", turned(badOrder, 2), api.ErrTableForm},
		{"a form, and a sum behind it", turned(badForm, 2), api.ErrTableForm},
		{"a form, and a sum ahead", turned(badForm, 0), api.ErrTableSum},
		{"a count, and a sum", turned(badCount, 2), api.ErrTableSum},
		{"a count", turned(badCount), api.ErrTableForm},
		{"two sums", turned(good, 0, 2), api.ErrTableSum},
	} {
		broken(t, c.name, opens(t, c.b), c.want)
	}
	holds(t, opens(t, turned(good)), []api.KV{a, b, c, d})
}
