package score_test

import (
	"cmp"
	"math"
	"slices"
	"testing"

	"staddle/score"
)

// P18.1: all floats of falling against one another, both ways round: a NaN below all and like any other one, the noughts alike.
func TestOrder(t *testing.T) {
	for _, a := range floats() {
		for _, b := range floats() {
			if got, want := score.Order(a.f, b.f), cmp.Compare(b.rank, a.rank); got != want {
				t.Errorf("%v, %v: %d; want %d", a.f, b.f, got, want)
			}
		}
	}
}

// P18.1: floats hard by one another are not alike, wherever they are.
func TestOrderHardBy(t *testing.T) {
	for _, a := range floats() {
		if above := math.Nextafter(a.f, endless); above != a.f && a.f == a.f {
			if score.Order(a.f, above) != -1 || score.Order(above, a.f) != 1 {
				t.Errorf("%v, %v", a.f, above)
			}
		}
		if below := math.Nextafter(a.f, -endless); below != a.f && a.f == a.f {
			if score.Order(a.f, below) != 1 || score.Order(below, a.f) != -1 {
				t.Errorf("%v, %v", a.f, below)
			}
		}
	}
}

// P18.5: scores stand in one line: of two, one is below or they are alike, the other way round it is the other way, and what is below one is below all that are not below that.
func TestOneLine(t *testing.T) {
	for _, a := range floats() {
		for _, b := range floats() {
			ab := score.Order(a.f, b.f)
			if ab < -1 || ab > 1 || score.Order(b.f, a.f) != -ab {
				t.Errorf("%v, %v: %d", a.f, b.f, ab)
			}
			for _, c := range floats() {
				bc, ac := score.Order(b.f, c.f), score.Order(a.f, c.f)
				if ab <= 0 && bc <= 0 && ac != min(ab, bc) {
					t.Errorf("%v, %v, %v: %d, %d, %d", a.f, b.f, c.f, ab, bc, ac)
				}
			}
		}
	}
}

// P18.5: any scores can be sorted, whatever their order was.
func TestSorted(t *testing.T) {
	var l []float64
	for _, f := range floats() {
		l = append(l, f.f)
	}
	for range 30 {
		// 21 of 23 are no neighbours, so that each turn mixes them anew.
		for i := range l {
			j := i * 21 % len(l)
			l[i], l[j] = l[j], l[i]
		}
		in := slices.Clone(l)
		slices.SortStableFunc(in, score.Order)
		for i := 1; i < len(in); i++ {
			if rankOf(in[i-1]) < rankOf(in[i]) {
				t.Fatalf("%v stands ahead of %v", in[i-1], in[i])
			}
		}
	}
}

// rankOf is the number of a float's line in falling.
func rankOf(f float64) int {
	for rank, l := range falling() {
		if slices.ContainsFunc(l, func(g float64) bool { return f == g || f != f && g != g }) {
			return rank
		}
	}
	return -1
}

// picked is what Pick is to answer, by the lines of falling.
func picked(l []ranked) int {
	at, best := -1, rankOf(1)+1
	for i, f := range l {
		if f.rank < best {
			at, best = i, f.rank
		}
	}
	return at
}

// P18.3: all lines of up to three floats: the first of the greatest ones, -1 if none is 1 or more.
func TestPick(t *testing.T) {
	checks := func(l ...ranked) {
		var in []float64
		for _, f := range l {
			in = append(in, f.f)
		}
		if got, want := score.Pick(in), picked(l); got != want {
			t.Errorf("%v: %d; want %d", in, got, want)
		}
	}
	checks()
	for _, a := range floats() {
		checks(a)
		for _, b := range floats() {
			checks(a, b)
			for _, c := range floats() {
				checks(a, b, c)
			}
		}
	}
}

// P18.3: the edges, told one by one.
func TestPickEdges(t *testing.T) {
	below, above := math.Nextafter(1, 0), math.Nextafter(1, 2)
	for _, c := range []struct {
		l    []float64
		want int
	}{
		{nil, -1}, {[]float64{}, -1},
		{[]float64{1}, 0}, {[]float64{below}, -1}, {[]float64{above}, 0}, {[]float64{0}, -1}, {[]float64{nan}, -1}, {[]float64{-endless}, -1}, {[]float64{endless}, 0}, {[]float64{-5}, -1},
		{[]float64{1, 1, 1, 1}, 0}, {[]float64{below, 1}, 1}, {[]float64{1, above}, 1}, {[]float64{above, 1}, 0}, {[]float64{1, above, above}, 1},
		{[]float64{endless, endless}, 0}, {[]float64{math.MaxFloat64, endless, endless}, 1}, {[]float64{-endless, nan, 0, minus0}, -1},
		{[]float64{nan, 1}, 1}, {[]float64{1, nan}, 0}, {[]float64{nan, endless, nan}, 1}, {[]float64{2, nan, 2}, 0}, {[]float64{nan, nan, nan, nan}, -1},
		{[]float64{0.9, 0.9, 0.9, 0.9}, -1}, {[]float64{2, 3, 4, 5, 6, 7, 8}, 6}, {[]float64{8, 7, 6, 5, 4, 3, 2}, 0}, {[]float64{0, 0, 0, 0, 0, 0, 1}, 6},
		{[]float64{-2, -1, -3}, -1},
	} {
		if got := score.Pick(c.l); got != c.want {
			t.Errorf("%v: %d; want %d", c.l, got, c.want)
		}
	}
}
