package bump_test

import (
	"bytes"
	"math"
	"testing"

	"staddle/api"
	"staddle/bump"
)

// makes gives out a cell, and tells a fault if it has another number.
func makes(t *testing.T, a *bump.Arena, want int) {
	t.Helper()
	before := a.Used()
	if cell, err := a.Cell(); cell != want || err != api.OK {
		t.Errorf("Cell: %d, %d, not %d", cell, err, want)
	}
	uses(t, a, before+8)
	if n, err := a.Load(want); n != 0 || err != api.OK {
		t.Errorf("the new cell %d holds %d, %d", want, n, err)
	}
}

func refusesCell(t *testing.T, a *bump.Arena) {
	t.Helper()
	refuses(t, a, "Cell", api.ErrBumpFull, func() api.Errno {
		cell, err := a.Cell()
		if cell != 0 {
			t.Errorf("Cell: %d beside the error", cell)
		}
		return err
	})
}

func stores(t *testing.T, a *bump.Arena, cell, n int) {
	t.Helper()
	if err := a.Store(cell, n); err != api.OK {
		t.Errorf("Store(%d, %d): %d", cell, n, err)
	}
}

func cas(t *testing.T, a *bump.Arena, cell, old, n int, want bool) {
	t.Helper()
	if done, err := a.Cas(cell, old, n); done != want || err != api.OK {
		t.Errorf("Cas(%d, %d, %d): %v, %d, not %v", cell, old, n, done, err, want)
	}
}

// holds tells a fault if an arena's cells, from 0 on, hold other numbers than these, or if there are others.
func holds(t *testing.T, a *bump.Arena, want ...int) {
	t.Helper()
	for cell, n := range want {
		if got, err := a.Load(cell); got != n || err != api.OK {
			t.Errorf("Load(%d): %d, %d, not %d", cell, got, err, n)
		}
	}
	if got, err := a.Load(len(want)); got != 0 || err != api.ErrArg {
		t.Errorf("Load(%d): %d, %d, where there are no more", len(want), got, err)
	}
}

// P6.2: a cell takes eight bytes of room, just that.
func TestCellRoom(t *testing.T) {
	for _, used := range []int{0, 1, 5, 100} {
		for left := range 20 {
			a := given(t, used+left, used)
			cells := 0
			for ; left-8*cells >= 8; cells++ {
				makes(t, a, cells)
			}
			refusesCell(t, a)
			uses(t, a, used+8*cells)
			if rest := left - 8*cells; rest > 0 {
				allocs(t, a, rest, used+8*cells)
				refusesCell(t, a)
			}
			refusesAlloc(t, a, 1, api.ErrBumpFull)
		}
	}
}

// P6.2: cells and bytes come out of one room; cells are counted by themselves.
func TestCellsAndBytes(t *testing.T) {
	a := fresh(t, 40)
	makes(t, a, 0)
	allocs(t, a, 3, 8)
	makes(t, a, 1)
	makes(t, a, 2)
	allocs(t, a, 5, 27)
	refusesAlloc(t, a, 9, api.ErrBumpFull)
	makes(t, a, 3)
	refusesCell(t, a)
	holds(t, a, 0, 0, 0, 0)
}

// P6.2: as many cells as the greatest size has room for.
func TestMostCells(t *testing.T) {
	a := fresh(t, api.MaxArena)
	for i := range 8192 {
		if cell, err := a.Cell(); cell != i || err != api.OK {
			t.Fatalf("the Cell at %d: %d, %d", i, cell, err)
		}
		stores(t, a, i, i*i-5)
	}
	refusesCell(t, a)
	refusesAlloc(t, a, 1, api.ErrBumpFull)
	uses(t, a, 65536)
	for i := range 8192 {
		if n, err := a.Load(i); n != i*i-5 || err != api.OK {
			t.Fatalf("Load(%d): %d, %d", i, n, err)
		}
	}
	gets(t, a, 0, string(make([]byte, 65536)))
}

// P6.2: a cell's eight bytes are nobody's: they are laid and read, and are not what the cell holds.
func TestCellBytes(t *testing.T) {
	a := given(t, 30, 3)
	makes(t, a, 0)
	makes(t, a, 1)
	gets(t, a, 3, string(make([]byte, 16)))
	stores(t, a, 0, -2)
	stores(t, a, 1, math.MaxInt)
	gets(t, a, 3, string(make([]byte, 16)))
	puts(t, a, 0, string(bytes.Repeat([]byte{0x5a}, 19)))
	holds(t, a, -2, math.MaxInt)
	gets(t, a, 3, string(bytes.Repeat([]byte{0x5a}, 16)))
	stores(t, a, 0, 0)
	cas(t, a, 1, math.MaxInt, 4, true)
	gets(t, a, 0, string(bytes.Repeat([]byte{0x5a}, 19)))
	makes(t, a, 2)
	gets(t, a, 3, string(bytes.Repeat([]byte{0x5a}, 16))+string(make([]byte, 8)))
}

// P6.4: cells that there are not, with no cell at all and with some.
func TestNoSuchCell(t *testing.T) {
	for _, cells := range []int{0, 1, 3} {
		a := given(t, 100, 20)
		for i := range cells {
			makes(t, a, i)
			stores(t, a, i, i+7)
		}
		for _, cell := range []int{-1, cells, cells + 1, -cells - 1, 20, 8192, 8193, 65536, math.MaxInt, math.MinInt} {
			refuses(t, a, "Load", api.ErrArg, func() api.Errno {
				n, err := a.Load(cell)
				if n != 0 {
					t.Errorf("Load(%d): %d beside the error", cell, n)
				}
				return err
			})
			refuses(t, a, "Store", api.ErrArg, func() api.Errno { return a.Store(cell, 9) })
			for _, old := range []int{0, 7} {
				refuses(t, a, "Cas", api.ErrArg, func() api.Errno {
					done, err := a.Cas(cell, old, 9)
					if done {
						t.Errorf("Cas(%d): true beside the error", cell)
					}
					return err
				})
			}
		}
		if cells > 0 {
			stores(t, a, cells-1, 70)
			cas(t, a, cells-1, 70, 71, true)
			if n, err := a.Load(cells - 1); n != 71 || err != api.OK {
				t.Errorf("the last cell holds %d, %d", n, err)
			}
		}
		// What was told to a cell that was not there is not what it holds when it is.
		makes(t, a, cells)
	}
}

// P6.4: what is stored is held, in that cell alone, any int.
func TestStore(t *testing.T) {
	a := fresh(t, 24)
	for i := range 3 {
		makes(t, a, i)
	}
	for _, n := range []int{1, -1, 0, math.MaxInt, math.MinInt, 1 << 32, 255} {
		for cell := range 3 {
			want := []int{0, 0, 0}
			want[cell] = n
			stores(t, a, cell, n)
			holds(t, a, want...)
			holds(t, a, want...)
			stores(t, a, cell, 0)
		}
	}
	uses(t, a, 24)
}

// P6.4: a Cas changes the cell only if it holds what was said, and tells which.
func TestCas(t *testing.T) {
	a := fresh(t, 24)
	for i := range 3 {
		makes(t, a, i)
	}
	cas(t, a, 1, 1, 5, false)
	holds(t, a, 0, 0, 0)
	cas(t, a, 1, 0, 5, true)
	holds(t, a, 0, 5, 0)
	cas(t, a, 1, 0, 6, false)
	cas(t, a, 0, 5, 6, false)
	holds(t, a, 0, 5, 0)
	cas(t, a, 1, 5, 5, true)
	cas(t, a, 1, 4, 5, false)
	holds(t, a, 0, 5, 0)
	cas(t, a, 2, 0, math.MinInt, true)
	cas(t, a, 2, math.MaxInt, 1, false)
	cas(t, a, 2, math.MinInt+1<<32, 1, false)
	cas(t, a, 2, math.MinInt, -1, true)
	holds(t, a, 0, 5, -1)
	stores(t, a, 1, 8)
	cas(t, a, 1, 5, 9, false)
	cas(t, a, 1, 8, 0, true)
	holds(t, a, 0, 0, -1)
	uses(t, a, 24)
}

// P6.5: what a cell holds stays, whatever else is given out and laid.
func TestHeldStays(t *testing.T) {
	a := fresh(t, 1000)
	var want []int
	for i := range 60 {
		makes(t, a, i)
		stores(t, a, i, i+100)
		want = append(want, i+100)
		allocs(t, a, 1+i%3, a.Used())
		puts(t, a, 0, string(bytes.Repeat([]byte{byte(i)}, a.Used())))
		holds(t, a, want...)
	}
}
