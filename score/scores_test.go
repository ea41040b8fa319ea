package score_test

import (
	"math"
	"slices"
	"strconv"
	"testing"

	"staddle/api"
	"staddle/score"
)

// sized are files of these Sizes.
func sized(sizes ...int) []api.File {
	var l []api.File
	for _, n := range sizes {
		l = append(l, api.File{Size: n})
	}
	return l
}

// levels are files, level by level.
func levels(l ...[]api.File) api.Version {
	var v api.Version
	copy(v.L[:], l)
	return v
}

// P18.2: level 0 counts its files, whatever their Sizes are; the others have the sum of theirs, whatever their number is.
func TestScores(t *testing.T) {
	all := levels(sized(100, 200, 300), sized(10, 20), sized(7), sized(1, 2, 3, 4))
	scores(t, "all levels", all, 4, []float64{40, 14, 5}, 0.75, 0.75, 0.5, 2)
	scores(t, "of one each", all, 1, []float64{1, 1, 1}, 3, 30, 7, 10)
	scores(t, "parts of one", all, 0.5, []float64{0.25, 0.125, 2.5}, 6, 120, 56, 4)
	scores(t, "just full", all, 3, []float64{30, 7, 10}, 1, 1, 1, 1)
	one := sized(5, 6)
	for level, want := range [][]float64{{0.5, 0, 0, 0}, {0, 1.1, 0, 0}, {0, 0, 0.55, 0}, {0, 0, 0, 0.275}} {
		var v api.Version
		v.L[level] = one
		scores(t, "level "+strconv.Itoa(level)+" alone", v, 4, []float64{10, 20, 40}, want...)
	}
	// The files are where they stand, whatever they say themselves.
	v := levels([]api.File{{Level: 3, Size: 9}}, []api.File{{Level: 0, Size: 8, Small: api.IKey{User: "z"}}})
	scores(t, "other Levels", v, 2, []float64{16, 1, 1}, 0.5, 0.5, 0, 0)
}

// P18.2: targets that are missing are 0, those behind the third are not looked at.
func TestTargets(t *testing.T) {
	all := levels(sized(1), sized(2), sized(3), sized(4))
	targets := []float64{2, 4, 8, nan, 1}
	for n, want := range [][]float64{{1, endless, endless, endless}, {1, 1, endless, endless}, {1, 1, 0.75, endless}, {1, 1, 0.75, 0.5}, {1, 1, 0.75, 0.5}, {1, 1, 0.75, 0.5}} {
		scores(t, strconv.Itoa(n)+" targets", all, 1, targets[:n], want...)
		scores(t, strconv.Itoa(n)+" targets, just so many", all, 1, slices.Clip(targets[:n]), want...)
	}
	for n, want := range [][]float64{{0, nan, nan, nan}, {0, 0, nan, nan}, {0, 0, 0, nan}, {0, 0, 0, 0}} {
		scores(t, strconv.Itoa(n)+" targets, no files", api.Version{}, 1, targets[:n], want...)
	}
}

// P18.2: a trigger and targets of all kinds, of nothing, of some and of less than nothing, as float64 divides.
func TestByAllFloats(t *testing.T) {
	for _, c := range []struct {
		by               float64
		none, two, minus float64
	}{
		{0, nan, endless, -endless},
		{minus0, nan, -endless, endless},
		{nan, nan, nan, nan},
		{-nan, nan, nan, nan},
		{endless, 0, 0, minus0},
		{-endless, minus0, minus0, 0},
		{1, 0, 2, -2},
		{-1, minus0, -2, 2},
		{-4, minus0, -0.5, 0.5},
		{4, 0, 0.5, -0.5},
		{math.SmallestNonzeroFloat64, 0, endless, -endless},
		{-math.SmallestNonzeroFloat64, minus0, -endless, endless},
		{0x1p-1022, 0, 0x1p1023, -0x1p1023},
		{0x1p-1023, 0, endless, -endless},
		{0x1p1023, 0, 0x1p-1022, -0x1p-1022},
		{math.MaxFloat64, 0, 0x1p-1023, -0x1p-1023},
		{-math.MaxFloat64, minus0, -0x1p-1023, 0x1p-1023},
		{math.Nextafter(2, 0), 0, math.Nextafter(1, 2), -math.Nextafter(1, 2)},
		{math.Nextafter(2, 3), 0, math.Nextafter(math.Nextafter(1, 0), 0), -math.Nextafter(math.Nextafter(1, 0), 0)},
	} {
		what := strconv.FormatFloat(c.by, 'g', -1, 64)
		scores(t, "by "+what, levels(nil, nil, sized(2), sized(-2)), c.by, []float64{c.by, c.by, c.by}, c.none, c.none, c.two, c.minus)
		scores(t, "by "+what, levels(sized(0, -7), sized(1, 1), sized(-5, 3), sized(4, -4)), c.by, []float64{c.by, c.by, c.by}, c.two, c.two, c.minus, c.none)
		for level := range api.Levels {
			targets, want := []float64{1, 1, 1}, []float64{2, 2, 2, 2}
			trigger := 1.0
			if want[level] = c.two; level == 0 {
				trigger = c.by
			} else {
				targets[level-1] = c.by
			}
			scores(t, "one of them by "+what, levels(sized(1, 1), sized(2), sized(2), sized(2)), trigger, targets, want...)
		}
	}
}

// P18.2: Sizes of all kinds: their sum goes round as version.Size has it, and becomes the float64 that is nearest.
func TestGreatSizes(t *testing.T) {
	for _, c := range []struct {
		sizes []int
		want  float64
	}{
		{[]int{math.MaxInt}, 0x1p63}, {[]int{math.MinInt}, -0x1p63}, {[]int{math.MaxInt, 1}, -0x1p63}, {[]int{math.MinInt, -1}, 0x1p63}, {[]int{math.MinInt, math.MinInt}, 0},
		{[]int{1 << 53, 1}, 0x1p53}, {[]int{1 << 53, 2}, 0x1p53 + 2}, {[]int{1 << 53, 3}, 0x1p53 + 4}, {[]int{1<<53 - 1}, 0x1p53 - 1}, {[]int{1<<31 - 1, 1<<31 - 1}, 0x1p32 - 2},
		{[]int{-1}, -1}, {[]int{0, 0}, 0}, {[]int{5, -5}, 0},
	} {
		l := sized(c.sizes...)
		scores(t, "by 1", levels(nil, l, l, l), 1, []float64{1, 1, 1}, 0, c.want, c.want, c.want)
		scores(t, "by what it is", levels(nil, l), 1, []float64{0x1p63, 1, 1}, 0, c.want/0x1p63, 0, 0)
	}
}

// P18.2, P18.3: a score hard by 1, picked or not: Sizes and targets hard by one another, and targets at the ends of all numbers.
func TestScoresThatArePicked(t *testing.T) {
	full := levels(sized(1, 1, 1, 1), sized(400), sized(1000), sized(2000))
	for _, c := range []struct {
		trigger float64
		targets []float64
		want    int
	}{
		{5, []float64{401, 1001, 2001}, -1},
		{4, []float64{401, 1001, 2001}, 0},
		{math.Nextafter(4, 5), []float64{401, 1001, 2001}, -1},
		{math.Nextafter(4, 3), []float64{401, 1001, 2001}, 0},
		{5, []float64{400, 1001, 2001}, 1},
		{4, []float64{400, 1000, 2000}, 0},
		{4, []float64{399, 1000, 2000}, 1},
		{4, []float64{400, 999, 2000}, 2},
		{4, []float64{400, 1000, 1999}, 3},
		{3, []float64{300, 750, 1500}, 0},
		{math.Nextafter(3, 4), []float64{300, 750, 1500}, 1},
		{0, []float64{0, 0, 0}, 0},
		{nan, []float64{0, 0, 0}, 1},
		{minus0, []float64{minus0, 1000, nan}, 2},
		{-4, []float64{-400, -endless, endless}, -1},
		{endless, []float64{endless, endless, endless}, -1},
		{math.MaxFloat64, []float64{math.MaxFloat64, math.MaxFloat64, math.SmallestNonzeroFloat64}, 3},
		{0x1p-1021, []float64{math.SmallestNonzeroFloat64, 0, 0}, 1},
		{nan, nil, 1},
		{nan, []float64{nan}, 2},
		{nan, []float64{nan, nan}, 3},
		{nan, []float64{nan, nan, nan, 0}, -1},
	} {
		if got := score.Pick(score.Scores(full, c.trigger, c.targets)); got != c.want {
			t.Errorf("%v, %v: %d; want %d", c.trigger, c.targets, got, c.want)
		}
	}
}
