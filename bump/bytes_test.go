package bump_test

import (
	"bytes"
	"math"
	"testing"

	"staddle/api"
	"staddle/bump"
)

func puts(t *testing.T, a *bump.Arena, at int, b string) {
	t.Helper()
	if err := a.Put(at, []byte(b)); err != api.OK {
		t.Errorf("Put(%d, %d bytes): %d", at, len(b), err)
	}
}

// gets tells a fault if there are other bytes at a place than these.
func gets(t *testing.T, a *bump.Arena, at int, want string) {
	t.Helper()
	b, err := a.Get(at, len(want))
	if string(b) != want || err != api.OK {
		t.Errorf("Get(%d, %d): %d bytes, %d; or others than %.40q", at, len(want), len(b), err, want)
	}
}

func refusesPut(t *testing.T, a *bump.Arena, at int, b []byte) {
	t.Helper()
	refuses(t, a, "Put", api.ErrArg, func() api.Errno { return a.Put(at, b) })
}

func refusesGet(t *testing.T, a *bump.Arena, at, n int) {
	t.Helper()
	refuses(t, a, "Get", api.ErrArg, func() api.Errno {
		b, err := a.Get(at, n)
		if len(b) != 0 {
			t.Errorf("Get(%d, %d): %d bytes beside the error", at, n, len(b))
		}
		return err
	})
}

// P6.3: every place and length around what was given out, of which there is more room than that: only what is whole within it is laid and read.
func TestPutGetEdges(t *testing.T) {
	for _, used := range []int{0, 1, 5, 12} {
		for at := -2; at <= used+2; at++ {
			for n := range used + 4 {
				a := given(t, 12, used)
				b := bytes.Repeat([]byte{0xa5}, n)
				if at < 0 || at+n > used {
					refusesPut(t, a, at, b)
					refusesGet(t, a, at, n)
					continue
				}
				puts(t, a, at, string(b))
				whole := make([]byte, used)
				copy(whole[at:], b)
				gets(t, a, 0, string(whole))
				gets(t, a, at, string(b))
				uses(t, a, used)
			}
		}
	}
}

// P6.3: no bytes: at every place up to Used, and none beyond it; nil and an empty list are alike.
func TestNoBytes(t *testing.T) {
	a := given(t, 12, 5)
	puts(t, a, 0, "abcde")
	for at := range 6 {
		for _, b := range [][]byte{nil, {}} {
			if err := a.Put(at, b); err != api.OK {
				t.Errorf("Put(%d, none): %d", at, err)
			}
		}
		gets(t, a, at, "")
	}
	gets(t, a, 0, "abcde")
	for _, at := range []int{-1, 6, 12, 13, 65536, 65537, math.MaxInt, math.MinInt} {
		refusesPut(t, a, at, nil)
		refusesPut(t, a, at, []byte{})
		refusesGet(t, a, at, 0)
	}
}

// P6.3: places and lengths whose sum has no room in an int, and lengths below 0.
func TestFarPlaces(t *testing.T) {
	for _, used := range []int{0, 5, 12} {
		a := given(t, 12, used)
		far := []int{math.MaxInt, math.MaxInt - 1, math.MaxInt - 5, math.MaxInt - 12, math.MaxInt/2 + 1, 1 << 32, 1<<32 + 1}
		for _, x := range far {
			for _, y := range append([]int{1, 2, used, used + 1}, far...) {
				refusesGet(t, a, x, y)
				refusesGet(t, a, y, x)
			}
			for _, n := range []int{1, 2, 5, 6, 12, 13} {
				refusesPut(t, a, x, make([]byte, n))
			}
			refusesGet(t, a, 0, x)
			refusesGet(t, a, used, x)
			refusesPut(t, a, -x, make([]byte, 3))
		}
		for _, n := range []int{-1, -2, -used, -used - 1, math.MinInt, math.MinInt + 1, -math.MaxInt + used} {
			for _, at := range []int{0, 1, used, used + 1, -1, -n, math.MaxInt, math.MinInt} {
				if n < 0 {
					refusesGet(t, a, at, n)
				}
			}
		}
	}
}

// P6.3: a Put of far more than there is, at the greatest size too.
func TestPutTooMany(t *testing.T) {
	a := given(t, api.MaxArena, api.MaxArena)
	refusesPut(t, a, 0, make([]byte, api.MaxArena+1))
	refusesPut(t, a, 1, make([]byte, api.MaxArena))
	refusesPut(t, a, api.MaxArena, make([]byte, 1))
	refusesGet(t, a, 0, api.MaxArena+1)
	whole := make([]byte, api.MaxArena)
	for i := range whole {
		whole[i] = byte(i*7 + i>>8)
	}
	puts(t, a, 0, string(whole))
	gets(t, a, 0, string(whole))
	gets(t, a, api.MaxArena-1, string(whole[api.MaxArena-1:]))
	gets(t, a, api.MaxArena, "")
}

// P6.3: what was not given out can't be reached, though there is room; given out later, it is 0.
func TestNotGivenOut(t *testing.T) {
	a := given(t, 20, 4)
	puts(t, a, 0, "abcd")
	refusesPut(t, a, 0, []byte("12345"))
	refusesPut(t, a, 3, []byte("12"))
	refusesPut(t, a, 4, []byte("1"))
	refusesGet(t, a, 4, 1)
	gets(t, a, 0, "abcd")
	allocs(t, a, 3, 4)
	gets(t, a, 0, "abcd\x00\x00\x00")
	makes(t, a, 0)
	gets(t, a, 0, "abcd"+string(make([]byte, 11)))
}

// P6.3: a Put and a Get may go over what several calls gave out.
func TestPutOverSeveral(t *testing.T) {
	a := given(t, 20, 4)
	allocs(t, a, 4, 4)
	makes(t, a, 0)
	allocs(t, a, 2, 16)
	puts(t, a, 2, "0123456789abcdef")
	gets(t, a, 0, "\x00\x000123456789abcdef")
	gets(t, a, 3, "123")
	holds(t, a, 0)
}

// P6.5: what is laid is read till it is laid anew, whatever else is given out and laid.
func TestLaidStays(t *testing.T) {
	a := given(t, 100, 10)
	puts(t, a, 0, "0123456789")
	allocs(t, a, 10, 10)
	makes(t, a, 0)
	stores(t, a, 0, -1)
	puts(t, a, 10, "abcdefghij")
	refusesAlloc(t, a, 73, api.ErrBumpFull)
	gets(t, a, 0, "0123456789abcdefghij")
	gets(t, a, 0, "0123456789abcdefghij")
	puts(t, a, 8, "XYZ")
	gets(t, a, 0, "01234567XYZbcdefghij")
	puts(t, a, 9, "\x00")
	gets(t, a, 0, "01234567X\x00Zbcdefghij")
	allocs(t, a, 72, 28)
	puts(t, a, 28, string(bytes.Repeat([]byte{0xff}, 72)))
	gets(t, a, 0, "01234567X\x00Zbcdefghij")
	gets(t, a, 20, string(make([]byte, 8)))
	holds(t, a, -1)
}
