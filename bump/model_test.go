package bump_test

import (
	"bytes"
	"math"
	"math/rand"
	"testing"

	"staddle/api"
	"staddle/bump"
)

// model is an arena whose bytes and cells are lists that grow.
type model struct {
	size  int
	bytes []byte
	cells []int
}

func (m *model) give(n int) { m.bytes = append(m.bytes, make([]byte, n)...) }

func (m *model) alloc(n int) (int, api.Errno) {
	if n < 1 {
		return 0, api.ErrArg
	}
	at := len(m.bytes)
	if n > m.size-at {
		return 0, api.ErrBumpFull
	}
	m.give(n)
	return at, api.OK
}

func (m *model) cell() (int, api.Errno) {
	if m.size-len(m.bytes) < 8 {
		return 0, api.ErrBumpFull
	}
	m.give(8)
	m.cells = append(m.cells, 0)
	return len(m.cells) - 1, api.OK
}

// there is whether each of so many places from at on was given out: asked one by one, so that nothing is summed.
func (m *model) there(at, n int) bool {
	if at < 0 || at > len(m.bytes) || n < 0 {
		return false
	}
	for rest := m.bytes[at:]; n > 0; n-- {
		if len(rest) == 0 {
			return false
		}
		rest = rest[1:]
	}
	return true
}

// number is one near those that count, or far off.
func number(r *rand.Rand, near int) int {
	switch r.Intn(10) {
	case 0:
		return []int{-1, math.MinInt, math.MaxInt, math.MaxInt - near, -near}[r.Intn(5)]
	case 1:
		return near - 1 + r.Intn(3)
	}
	return r.Intn(near + 2)
}

// gives does an Alloc or a Cell to both.
func gives(t *testing.T, r *rand.Rand, a *bump.Arena, m *model) {
	if r.Intn(2) == 0 {
		n := number(r, 9)
		got, err := a.Alloc(n)
		if want, fault := m.alloc(n); got != want || err != fault {
			t.Fatalf("Alloc(%d): %d, %d, not %d, %d", n, got, err, want, fault)
		}
		return
	}
	got, err := a.Cell()
	if want, fault := m.cell(); got != want || err != fault {
		t.Fatalf("Cell: %d, %d, not %d, %d", got, err, want, fault)
	}
}

// lays does a Put and a Get to both.
func lays(t *testing.T, r *rand.Rand, a *bump.Arena, m *model) {
	b := make([]byte, r.Intn(12))
	r.Read(b)
	at, want := number(r, len(m.bytes)), api.ErrArg
	if m.there(at, len(b)) {
		want = api.OK
		copy(m.bytes[at:], b)
	}
	if err := a.Put(at, b); err != want {
		t.Fatalf("Put(%d, %x): %d, not %d", at, b, err, want)
	}
	at, n := number(r, len(m.bytes)), number(r, 12)
	got, err := a.Get(at, n)
	if m.there(at, n) {
		if !bytes.Equal(got, m.bytes[at:at+n]) || err != api.OK {
			t.Fatalf("Get(%d, %d): %x, %d, not %x", at, n, got, err, m.bytes[at:at+n])
		}
	} else if len(got) != 0 || err != api.ErrArg {
		t.Fatalf("Get(%d, %d): %x, %d", at, n, got, err)
	}
}

// counts does a Store or a Cas to both.
func counts(t *testing.T, r *rand.Rand, a *bump.Arena, m *model) {
	cell, old, n := number(r, len(m.cells)), r.Intn(3)-1, r.Intn(3)-1
	want, done := api.ErrArg, false
	there := cell >= 0 && cell < len(m.cells)
	if there {
		want, done = api.OK, m.cells[cell] == old
	}
	if r.Intn(2) == 0 {
		if there {
			m.cells[cell] = n
		}
		if err := a.Store(cell, n); err != want {
			t.Fatalf("Store(%d, %d): %d, not %d", cell, n, err, want)
		}
		return
	}
	if done {
		m.cells[cell] = n
	}
	if got, err := a.Cas(cell, old, n); got != done || err != want {
		t.Fatalf("Cas(%d, %d, %d): %v, %d, not %v, %d", cell, old, n, got, err, done, want)
	}
}

// P6.1 to P6.5: calls by chance tell what the model tells.
func TestModel(t *testing.T) {
	does := []func(*testing.T, *rand.Rand, *bump.Arena, *model){gives, lays, lays, counts, counts}
	for seed := range 300 {
		r := rand.New(rand.NewSource(int64(seed)))
		m := &model{size: r.Intn(300)}
		a := fresh(t, m.size)
		for range 200 {
			does[r.Intn(len(does))](t, r, a, m)
			want := told{used: len(m.bytes), bytes: string(m.bytes), cells: m.cells}
			if x := tells(t, a); !same(x, want) {
				t.Fatalf("seed %d: %v, not %v", seed, x, want)
			}
		}
	}
}

// P6.5: no byte is given out twice, to whomever: each piece keeps what was laid into it, and each cell its number, till the room is gone.
func TestNeverAgain(t *testing.T) {
	for seed := range 100 {
		r := rand.New(rand.NewSource(int64(seed)))
		size := r.Intn(2000)
		a := fresh(t, size)
		owner := make([]byte, size)
		pieces, cells := byte(0), []int{}
		for range 10000 {
			if a.Used() == size {
				break
			}
			n := 1 + r.Intn(20)
			at, err := a.Alloc(n)
			if err == api.OK {
				pieces++
				puts(t, a, at, string(bytes.Repeat([]byte{pieces}, n)))
				for i := at; i < at+n; i++ {
					if owner[i] != 0 {
						t.Fatalf("seed %d: the byte %d was given out twice", seed, i)
					}
					owner[i] = pieces
				}
			}
			if cell, err := a.Cell(); err == api.OK {
				cells = append(cells, 1000+cell)
				stores(t, a, cell, 1000+cell)
			}
		}
		uses(t, a, size)
		gets(t, a, 0, string(owner))
		holds(t, a, cells...)
	}
}
