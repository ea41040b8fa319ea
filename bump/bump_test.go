package bump_test

import (
	"fmt"
	"math"
	"slices"
	"testing"

	"staddle/api"
	"staddle/bump"
)

func fresh(t *testing.T, size int) *bump.Arena {
	t.Helper()
	a, err := bump.New(size)
	if a == nil || err != api.OK {
		t.Fatalf("New(%d): nil is %v, %d", size, a == nil, err)
	}
	return a
}

// given is an arena of which so many bytes were given out, and no cell.
func given(t *testing.T, size, used int) *bump.Arena {
	t.Helper()
	a := fresh(t, size)
	if used > 0 {
		allocs(t, a, used, 0)
	}
	return a
}

// allocs gives out so many bytes, and tells a fault if they are not given out at that place.
func allocs(t *testing.T, a *bump.Arena, n, want int) {
	t.Helper()
	if at, err := a.Alloc(n); at != want || err != api.OK {
		t.Errorf("Alloc(%d): %d, %d, not %d", n, at, err, want)
	}
	uses(t, a, want+n)
}

// uses tells a fault if another number of bytes was given out.
func uses(t *testing.T, a *bump.Arena, want int) {
	t.Helper()
	if n := a.Used(); n != want {
		t.Errorf("Used: %d, not %d", n, want)
	}
}

// told is all that an arena tells: how much was given out, its bytes, and what its cells hold.
type told struct {
	used  int
	bytes string
	cells []int
}

func tells(t *testing.T, a *bump.Arena) told {
	t.Helper()
	out := told{used: a.Used()}
	b, err := a.Get(0, out.used)
	if len(b) != out.used || err != api.OK {
		t.Fatalf("Get(0, %d): %d bytes, %d", out.used, len(b), err)
	}
	out.bytes = string(b)
	for {
		n, err := a.Load(len(out.cells))
		if err != api.OK {
			return out
		}
		out.cells = append(out.cells, n)
	}
}

func (x told) String() string {
	return fmt.Sprintf("Used %d, bytes %.99q, cells %d", x.used, x.bytes, x.cells)
}

func same(x, y told) bool {
	return x.used == y.used && x.bytes == y.bytes && slices.Equal(x.cells, y.cells)
}

// refuses tells a fault if a call answers another error, or changes what the arena tells.
func refuses(t *testing.T, a *bump.Arena, name string, want api.Errno, call func() api.Errno) {
	t.Helper()
	before := tells(t, a)
	if err := call(); err != want {
		t.Errorf("%s: %d, not %d", name, err, want)
	}
	if behind := tells(t, a); !same(before, behind) {
		t.Errorf("%s: what was refused changed %v into %v", name, before, behind)
	}
}

func refusesAlloc(t *testing.T, a *bump.Arena, n int, want api.Errno) {
	t.Helper()
	refuses(t, a, "Alloc", want, func() api.Errno {
		at, err := a.Alloc(n)
		if at != 0 {
			t.Errorf("Alloc(%d): %d beside the error", n, at)
		}
		return err
	})
}

// The sections "Errors" and "Types": the numbers are api's.
func TestNumbers(t *testing.T) {
	if api.OK != 0 || api.ErrArg != 1 || api.ErrBumpFull != 60 {
		t.Error("an error has another number than the document's")
	}
	if api.MaxArena != 65536 {
		t.Error("a limit is another one than the document's")
	}
}

// The chapter's examples.
func TestExamples(t *testing.T) {
	a := fresh(t, 20)
	allocs(t, a, 5, 0)
	makes(t, a, 0)
	refusesAlloc(t, a, 8, api.ErrBumpFull)
	allocs(t, a, 7, 13)
	puts(t, a, 3, "ab")
	gets(t, a, 2, "\x00ab")
	refusesGet(t, a, 19, 2)
	cas(t, a, 0, 0, 7, true)
	cas(t, a, 0, 0, 8, false)
	holds(t, a, 7)
}

// P6.1: sizes that may not be; beside the error there is no arena.
func TestNewRefuses(t *testing.T) {
	for _, size := range []int{-1, 65537, -65536, 1 << 20, 1 << 32, math.MaxInt, math.MinInt} {
		if a, err := bump.New(size); a != nil || err != api.ErrArg {
			t.Errorf("New(%d): nil is %v, %d", size, a == nil, err)
		}
	}
}

// P6.1: nothing is given out; all bytes are 0, and there is no cell; there is just so much room.
func TestNew(t *testing.T) {
	for _, size := range []int{0, 1, 7, 8, 9, 1000, 65535, 65536} {
		a := fresh(t, size)
		if x := tells(t, a); !same(x, told{}) {
			t.Errorf("New(%d): %v", size, x)
		}
		refusesAlloc(t, a, size+1, api.ErrBumpFull)
		if size > 0 {
			allocs(t, a, size, 0)
			gets(t, a, 0, string(make([]byte, size)))
		}
		refusesAlloc(t, a, 1, api.ErrBumpFull)
	}
}

// P6.1: each arena is one of its own.
func TestArenasAreApart(t *testing.T) {
	a, b := given(t, 30, 10), given(t, 30, 10)
	puts(t, a, 0, "abc")
	makes(t, a, 0)
	makes(t, b, 0)
	stores(t, a, 0, 5)
	makes(t, a, 1)
	if x := tells(t, b); !same(x, told{used: 18, bytes: string(make([]byte, 18)), cells: []int{0}}) {
		t.Errorf("the other one: %v", x)
	}
	gets(t, fresh(t, 30), 0, "")
}

// P6.2: Alloc at both ends of what may be given out, with room and without any.
func TestAlloc(t *testing.T) {
	for _, used := range []int{0, 1, 19, 20} {
		for _, n := range []int{0, -1, -20, math.MinInt} {
			refusesAlloc(t, given(t, 20, used), n, api.ErrArg)
		}
		left := 20 - used
		for _, n := range []int{left + 1, left + 2, 21, 65537, math.MaxInt - used, math.MaxInt} {
			refusesAlloc(t, given(t, 20, used), n, api.ErrBumpFull)
		}
		for n := 1; n <= left; n++ {
			allocs(t, given(t, 20, used), n, used)
		}
	}
}

// P6.2: one Alloc behind the other, what was refused in between.
func TestAllocs(t *testing.T) {
	a := fresh(t, 20)
	allocs(t, a, 1, 0)
	allocs(t, a, 6, 1)
	refusesAlloc(t, a, 14, api.ErrBumpFull)
	refusesAlloc(t, a, 0, api.ErrArg)
	allocs(t, a, 12, 7)
	refusesAlloc(t, a, 2, api.ErrBumpFull)
	allocs(t, a, 1, 19)
	refusesAlloc(t, a, 1, api.ErrBumpFull)
	refusesAlloc(t, a, 0, api.ErrArg)
}

// P6.2, P6.5: byte by byte, up to the greatest size.
func TestAllocEach(t *testing.T) {
	a := fresh(t, api.MaxArena)
	for i := range api.MaxArena {
		if at, err := a.Alloc(1); at != i || err != api.OK || a.Used() != i+1 {
			t.Fatalf("the Alloc at %d: %d, %d; Used %d", i, at, err, a.Used())
		}
	}
	refusesAlloc(t, a, 1, api.ErrBumpFull)
}
