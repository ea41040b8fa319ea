package score_test

import (
	"math"
	"slices"
	"testing"

	"staddle/api"
	"staddle/score"
)

// file is a file of a level that has the users from from to to.
func file(level int, num uint64, from, to string) api.File {
	return api.File{Level: level, Num: num, Size: 10, Small: api.IKey{User: from, Seq: 2, Kind: api.Put}, Large: api.IKey{User: to, Seq: 1, Kind: api.Put}}
}

// stand are files, each behind those of its level that are named ahead of it.
func stand(l ...api.File) api.Version {
	var v api.Version
	for _, f := range l {
		v.L[f.Level] = append(v.L[f.Level], f)
	}
	return v
}

// nums are the numbers of files, in their order.
func nums(l []api.File) []uint64 {
	var out []uint64
	for _, f := range l {
		out = append(out, f.Num)
	}
	return out
}

// takes tells a fault if Inputs does not answer the files of these numbers.
func takes(t *testing.T, what string, v api.Version, level int, from string, lower, upper []uint64) {
	t.Helper()
	a, b := score.Inputs(v, level, from)
	if !slices.Equal(nums(a), lower) || !slices.Equal(nums(b), upper) {
		t.Errorf("%s: level %d, %q: %v, %v; want %v, %v", what, level, from, nums(a), nums(b), lower, upper)
	}
}

var (
	nan     = math.NaN()
	endless = math.Inf(1)
	minus0  = math.Copysign(0, -1)
)

// falling are floats of all kinds, those that are alike in one line, from the greatest on.
func falling() [][]float64 {
	return [][]float64{
		{endless},
		{math.MaxFloat64},
		{math.Nextafter(math.MaxFloat64, 0)},
		{1e9},
		{1.5, 1.5},
		{math.Nextafter(1, 2)},
		{1},
		{math.Nextafter(1, 0)},
		{0.5},
		{0x1p-1022},
		{math.SmallestNonzeroFloat64},
		{0, minus0},
		{-math.SmallestNonzeroFloat64},
		{math.Nextafter(-1, 0)},
		{-1},
		{math.Nextafter(-1, -2)},
		{-2},
		{-math.MaxFloat64},
		{-endless},
		{nan, -nan, math.Float64frombits(0x7ff0000000000001), math.Float64frombits(0xffffffffffffffff)},
	}
}

// ranked is a float and its line's number in falling.
type ranked struct {
	f    float64
	rank int
}

// floats are those of falling.
func floats() []ranked {
	var out []ranked
	for rank, l := range falling() {
		for _, f := range l {
			out = append(out, ranked{f, rank})
		}
	}
	return out
}

// like is whether two floats are the same one, the noughts apart, or both a NaN.
func like(a, b float64) bool {
	return a != a && b != b || a == b && math.Signbit(a) == math.Signbit(b)
}

// scores tells a fault if Scores does not answer what is wanted.
func scores(t *testing.T, what string, v api.Version, trigger float64, targets []float64, want ...float64) {
	t.Helper()
	if got := score.Scores(v, trigger, targets); !slices.EqualFunc(got, want, like) {
		t.Errorf("%s: %v; want %v", what, got, want)
	}
}

// P18.1 to P18.3: the chapter's examples.
func TestExamples(t *testing.T) {
	for _, c := range []struct {
		a, b float64
		want int
	}{{nan, -endless, -1}, {nan, nan, 0}, {minus0, 0, 0}, {1, endless, -1}} {
		if n := score.Order(c.a, c.b); n != c.want {
			t.Errorf("Order %v, %v: %d", c.a, c.b, n)
		}
	}
	for _, c := range []struct {
		l    []float64
		want int
	}{{[]float64{0.9, 1, 1.5, 1.5}, 2}, {[]float64{nan, 0.5}, -1}, {[]float64{endless, 2}, 0}} {
		if n := score.Pick(c.l); n != c.want {
			t.Errorf("Pick %v: %d", c.l, n)
		}
	}
	scores(t, "0, none", api.Version{}, 0, nil, nan, nan, nan, nan)
	scores(t, "4, 10 100 1000", api.Version{}, 4, []float64{10, 100, 1000}, 0, 0, 0, 0)
}

// The limits' numbers are api's, as the chapter counts with them: four levels, of which three have one behind them.
func TestNumbers(t *testing.T) {
	if api.Levels != 4 || len(api.Version{}.L) != 4 {
		t.Errorf("%d levels", api.Levels)
	}
}
