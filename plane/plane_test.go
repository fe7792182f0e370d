package plane

import (
	"math"
	"slices"
	"testing"

	"triskel/api"
)

// wholeTurn: the document's words for the turn, in whole numbers.
func wholeTurn(a, b, c api.Point) int {
	return (b.X-a.X)*(c.Y-a.Y) - (b.Y-a.Y)*(c.X-a.X)
}

// grid: all points of which both numbers are among these.
func grid(numbers ...int) []api.Point {
	var points []api.Point
	for _, x := range numbers {
		for _, y := range numbers {
			points = append(points, api.Point{X: x, Y: y})
		}
	}
	return points
}

func TestTurnIsTheDocumentsTurn(t *testing.T) {
	points := grid(-1000, -999, -1, 0, 1, 998, 1000)
	for _, a := range points {
		for _, b := range points {
			for _, c := range points {
				got, want := Turn(Place(a), Place(b), Place(c)), wholeTurn(a, b, c)
				if got != float64(want) {
					t.Fatalf("Turn(%v, %v, %v) = %v, want %d", a, b, c, got, want)
				}
			}
		}
	}
}

// wholeCircle: the document's words for a circle, in whole numbers: above 0, if d lies within.
func wholeCircle(a, b, c, d api.Point) int {
	x := [3]int{a.X - d.X, b.X - d.X, c.X - d.X}
	y := [3]int{a.Y - d.Y, b.Y - d.Y, c.Y - d.Y}
	var z [3]int
	for i := range z {
		z[i] = x[i]*x[i] + y[i]*y[i]
	}
	return x[0]*(y[1]*z[2]-z[1]*y[2]) - y[0]*(x[1]*z[2]-z[1]*x[2]) + z[0]*(x[1]*y[2]-y[1]*x[2])
}

func TestWithinIsTheDocumentsWithin(t *testing.T) {
	points := grid(-1000, -999, 0, 3, 1000)
	for _, a := range points {
		for _, b := range points {
			for _, c := range points {
				if wholeTurn(a, b, c) > 0 {
					for _, d := range points {
						wantWithin(t, a, b, c, d, wholeCircle(a, b, c, d) > 0)
					}
				}
			}
		}
	}
}

func TestWithin(t *testing.T) {
	a, b, c := api.Point{X: 0, Y: 0}, api.Point{X: 4, Y: 0}, api.Point{X: 0, Y: 4}
	for _, d := range []api.Point{{X: 1, Y: 1}, {X: 2, Y: 2}, {X: 3, Y: 3}, {X: 4, Y: 1}, {X: 0, Y: 2}} {
		wantWithin(t, a, b, c, d, true)
	}
	// On the circle is not within it.
	for _, d := range []api.Point{a, b, c, {X: 4, Y: 4}, {X: 5, Y: 0}, {X: -1, Y: 2}, {X: 900, Y: 900}} {
		wantWithin(t, a, b, c, d, false)
	}
	// So near to the circle that the sum is 840, or -360, while its parts have 14 digits.
	a, b, c = api.Point{X: 959, Y: 988}, api.Point{X: -926, Y: 987}, api.Point{X: 960, Y: -909}
	wantWithin(t, a, b, c, api.Point{X: 966, Y: 981}, true)
	wantWithin(t, a, b, c, api.Point{X: -928, Y: -907}, false)
}

func wantWithin(t *testing.T, a, b, c, d api.Point, want bool) {
	t.Helper()
	if got := Within(Place(a), Place(b), Place(c), Place(d)); got != want {
		t.Errorf("Within(%v, %v, %v, %v) = %v", a, b, c, d, got)
	}
}

// Lines cross only where neither ends, however each of them, and the two, are told.
func TestCross(t *testing.T) {
	for _, c := range []struct {
		a, b, c, d complex128
		want       bool
	}{
		{0, 4 + 4i, 4, 4i, true},
		{-1000 - 1000i, 1000 + 999i, -1000 + 1000i, 1000 - 1000i, true},
		{-1000, 1000, -1i, 1i, true},
		// One ends on the other, or where it ends.
		{0, 4, 2, 2 + 2i, false},
		{0, 4, 4, 4 + 4i, false},
		{0, 4, 0, 4, false},
		// On one straight way, apart and on one another.
		{0, 1, 2, 3, false},
		{0, 2, 1, 3, false},
		{0, 3, 1, 2, false},
		// Beside one another, and such that only the one would be met, if it were longer.
		{0, 4, 1i, 4 + 1i, false},
		{0, 4, 2 + 1i, 2 + 9i, false},
		{0, 4, 5 - 1i, 5 + 1i, false},
		{-1000 - 1000i, 1000 + 999i, 0, -1000 + 1000i, false},
	} {
		for _, l := range [][4]complex128{{c.a, c.b, c.c, c.d}, {c.b, c.a, c.c, c.d}, {c.a, c.b, c.d, c.c}, {c.c, c.d, c.a, c.b}, {c.d, c.c, c.b, c.a}} {
			if got := Cross(l[0], l[1], l[2], l[3]); got != c.want {
				t.Errorf("Cross(%v) = %v", l, got)
			}
		}
	}
}

func TestBetween(t *testing.T) {
	for _, c := range []struct {
		a, b, p complex128
		want    bool
	}{
		{0, 4, 2, true}, {0, 4, 1, true}, {0, 4i, 3i, true}, {-2 + 1i, 4 - 2i, 0, true},
		{-1000 - 1000i, 1000 + 1000i, 999 + 999i, true},
		{-1000 - 1000i, 1000 + 999i, -999 - 999i, false},
		{0, 4, 0, false}, {0, 4, 4, false}, {0, 4, 5, false}, {0, 4, -1, false}, {0, 4i, 5i, false},
		{0, 4, 2 + 1i, false}, {0, 4, 2 - 1i, false}, {0, 4 + 4i, 4, false},
	} {
		if Between(c.a, c.b, c.p) != c.want || Between(c.b, c.a, c.p) != c.want {
			t.Errorf("Between(%v, %v, %v) is not %v", c.a, c.b, c.p, c.want)
		}
	}
}

// Below asks how the four lie in height: on a slope none is below the others, wherever it lies and however steep.
func TestBelow(t *testing.T) {
	bowl := func(p complex128) float64 { return math.Abs(real(p)) }
	hill := func(p complex128) float64 { return -math.Abs(real(p)) }
	slope := func(p complex128) float64 { return 700 - 3*real(p) + 5*imag(p) }
	for _, c := range []struct {
		a, b, c, d complex128
		height     func(complex128) float64
		want       bool
	}{
		{-2, 2, 3i, 1i, bowl, true},
		{-2, 2, 3i, 1i, hill, false},
		{-2, 2, 3i, 1i, slope, false},
		{-2, 2, 3i, -9 - 9i, slope, false},
		// Across the side from -2 to 2 at 0: the way from 3i to -3i lies lower, and if that is the side, the other one higher.
		{-2, 2, 3i, -3i, bowl, true},
		{-3i, 3i, -2, 2, bowl, false},
		{-2, 2, 3i, -3i, hill, false},
		{-3i, 3i, -2, 2, hill, true},
		// All on one side of the bowl's fold: a slope.
		{1, 5, 2 + 2i, 3 + 1i, bowl, false},
		{-1000, 1000, 1000i, -1000i, bowl, true},
		{-1000, 1000, 1000i, 999i, bowl, true},
		{-1000, 1000, 1000i, 1000 + 999i, bowl, false},
	} {
		if got := Below(c.a, c.b, c.c, c.d, c.height); got != c.want {
			t.Errorf("Below(%v, %v, %v, %v) = %v", c.a, c.b, c.c, c.d, got)
		}
	}
}

func TestRightward(t *testing.T) {
	places := []complex128{2, 1 + 1i, -1000i, 1 - 1i, -3 + 5i, 1}
	own := slices.Clone(places)
	if got := Rightward(places); !slices.Equal(got, []int{4, 2, 3, 5, 1, 0}) {
		t.Errorf("Rightward(%v) = %v", own, got)
	}
	if !slices.Equal(places, own) {
		t.Errorf("Rightward(%v) wrote into its places: %v", own, places)
	}
	if got := Rightward(nil); len(got) != 0 {
		t.Errorf("Rightward(nil) = %v", got)
	}
}

func TestPlaces(t *testing.T) {
	got := Places([]api.Point{{X: 3, Y: -4}, {X: -1000, Y: 1000}})
	if len(got) != 2 || got[0] != complex(3, -4) || got[1] != complex(-1000, 1000) {
		t.Errorf("Places = %v", got)
	}
	if got := Places(nil); len(got) != 0 {
		t.Errorf("Places(nil) = %v", got)
	}
}

func TestInBounds(t *testing.T) {
	for _, n := range []int{-1000, -999, 0, 999, 1000} {
		if !InBounds(api.Point{X: n, Y: 0}) || !InBounds(api.Point{X: 0, Y: n}) {
			t.Errorf("%d is in bounds", n)
		}
	}
	for _, n := range []int{-1001, 1001, 1 << 32, -1 << 32, 1<<32 + 5, math.MinInt, math.MinInt + 1, math.MaxInt} {
		if InBounds(api.Point{X: n, Y: 0}) || InBounds(api.Point{X: 0, Y: n}) {
			t.Errorf("%d is not in bounds", n)
		}
	}
}
