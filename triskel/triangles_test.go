package triskel_test

import (
	"cmp"
	"slices"
	"testing"

	"triskel/api"
	"triskel/triskel"
)

func TestP4Examples(t *testing.T) {
	for _, c := range []struct {
		list []api.Point
		want []api.Triangle
	}{
		{points(0, 0, 4, 0, 0, 4), threes(0, 1, 2)},
		{points(0, 0, 0, 4, 4, 0), threes(0, 2, 1)},
		{points(0, 0, 4, 0, 4, 4, 0, 4, 1, 2), threes(0, 1, 4, 0, 4, 3, 1, 2, 4, 2, 3, 4)},
		{points(0, 0, 6, 0, 3, 1, 3, -1), threes(0, 3, 2, 1, 2, 3)},
		{points(0, 0, 2, 0, 4, 0, 0, 3), threes(0, 1, 3, 1, 2, 3)},
	} {
		wantTriangles(t, c.list, c.want)
	}
}

// Points on the hull's border are corners of triangles, though none of the hull's, on a side of any direction.
func TestP4PointsOnTheBorder(t *testing.T) {
	wantTriangles(t, points(0, 0, 1, 0, 2, 0, 3, 0, 1, 9), threes(0, 1, 4, 1, 2, 4, 2, 3, 4))
	wantTriangles(t, points(0, 0, 0, 1, 0, 2, 0, 3, 9, 1), threes(0, 4, 1, 1, 4, 2, 2, 4, 3))
	wantTriangles(t, points(0, 0, 1, 1, 2, 2, 3, 3, -9, 9), threes(0, 1, 4, 1, 2, 4, 2, 3, 4))
	wantTriangles(t, points(0, 0, 1, 1, 2, 2, 3, 3, 9, -9), threes(0, 4, 1, 1, 4, 2, 2, 4, 3))
	wantTriangles(t, points(-1000, 0, 0, 0, 1000, 0, 999, 0, 0, 1, -999, 0), threes(0, 5, 4, 1, 3, 4, 1, 4, 5, 2, 4, 3))
}

// A circle is told from the next one, as far apart as points can lie: here its sum is 360 below 0, and there 840 above,
// while its parts have 14 digits.
func TestP4NearlyOnOneCircle(t *testing.T) {
	wantTriangles(t, points(959, 988, -926, 987, 960, -909, -928, -907), threes(0, 1, 2, 1, 3, 2))
	wantTriangles(t, points(959, 988, -926, 987, 960, -909, 966, 981), threes(0, 1, 3, 1, 2, 3))
	wantTriangles(t, points(1000, 1000, -1000, 1000, -1000, -1000, 1000, -999), threes(0, 1, 3, 1, 2, 3))
	wantTriangles(t, points(-999, -1000, 1000, -1000, 1000, 1000, -1000, 1000), threes(0, 1, 2, 0, 2, 3))
}

// Many points on one circle: there are several answers, and each that is given must hold.
func TestP4OnOneCircle(t *testing.T) {
	ring := onOneCircle()
	for count := 3; count <= api.MaxPoints; count++ {
		checkTriangles(t, ring[:count])
		checkTriangles(t, slices.Concat(points(0, 0), ring[:count-1]))
		checkTriangles(t, slices.Concat(ring[len(ring)-count+2:], points(1, 1, 0, -1)))
	}
}

// onOneCircle: more points than are taken, by rising X, then Y.
func onOneCircle() []api.Point {
	var ring []api.Point
	for x := -75; x <= 75; x++ {
		for y := -75; y <= 75; y++ {
			if x*x+y*y == 5525 {
				ring = append(ring, api.Point{X: x, Y: y})
			}
		}
	}
	return ring
}

// Points of which hardly any is seen at first from where it belongs: many sides must be changed.
func TestP4Bows(t *testing.T) {
	var bow, comb []api.Point
	for i := range api.MaxPoints {
		x := i - api.MaxPoints/2
		bow = append(bow, api.Point{X: x, Y: x * x})
		comb = append(comb, api.Point{X: x, Y: 900 * (i % 2)})
		if i >= 2 {
			checkTriangles(t, bow)
			checkTriangles(t, comb)
		}
	}
}

func TestP4EveryChoiceOfAGrid(t *testing.T) {
	for list := range gridChoices() {
		checkTriangles(t, list)
	}
}

func TestP4Scattered(t *testing.T) {
	for list := range scattered(4) {
		checkTriangles(t, list)
	}
}

func wantTriangles(t *testing.T, list []api.Point, want []api.Triangle) {
	t.Helper()
	if got, e := triskel.Triangles(list); !slices.Equal(got, want) || e != api.OK {
		t.Errorf("Triangles(%v) = %v, %d, want %v", list, got, e, want)
	}
	wantBound(t, list, nil, want)
}

// checkTriangles holds Triangles against the document's words, for different points in bounds.
func checkTriangles(t *testing.T, list []api.Point) {
	t.Helper()
	if isFlat(list) {
		wantErrno(t, list, api.ErrFlat)
		return
	}
	got, e := triskel.Triangles(list)
	if what := wrongTriangles(list, got); e != api.OK || what != "" {
		t.Fatalf("Triangles(%v) = %v, %d: %s", list, got, e, what)
	}
}

// wrongTriangles: P4, all of it.
func wrongTriangles(list []api.Point, triangles []api.Triangle) string {
	return cmp.Or(wrongTriangle(list, triangles), wrongFill(list, triangles), wrongCircle(list, triangles))
}

// wrongTriangle: P4 (a), and the order.
func wrongTriangle(list []api.Point, triangles []api.Triangle) string {
	for i, x := range triangles {
		switch {
		case min(x.A, x.B, x.C) < 0 || max(x.A, x.B, x.C) >= len(list):
			return "a number that is no point's"
		case x.A >= min(x.B, x.C):
			return "A is not the least"
		case turn(list[x.A], list[x.B], list[x.C]) <= 0:
			return "one does not turn left"
		case i > 0 && byName(triangles[i-1], x) >= 0:
			return "not in order"
		}
	}
	return ""
}

func byName(x, y api.Triangle) int {
	return cmp.Or(cmp.Compare(x.A, y.A), cmp.Compare(x.B, y.B), cmp.Compare(x.C, y.C))
}

// wrongFill: P4 (b).
func wrongFill(list []api.Point, triangles []api.Triangle) string {
	area := 0
	times := make(map[api.Line]int)
	corner := make([]bool, len(list))
	for i, x := range triangles {
		area += turn(list[x.A], list[x.B], list[x.C])
		for _, s := range sidesOf(x) {
			times[s]++
			corner[s.A] = true
		}
		for _, y := range triangles[:i] {
			if !isBeside(list, x, y) && !isBeside(list, y, x) {
				return "two lie over one another"
			}
		}
	}
	if area != hullArea(list) {
		return "not the hull's area"
	}
	if slices.Contains(corner, false) {
		return "a point that is no corner"
	}
	for s, n := range times {
		if n != 1 || times[api.Line{A: s.B, B: s.A}] != 1 && !isOnBorder(list, s) {
			return "a side that is not between two and not on the border"
		}
	}
	return ""
}

func sidesOf(x api.Triangle) [3]api.Line {
	return [3]api.Line{{A: x.A, B: x.B}, {A: x.B, B: x.C}, {A: x.C, B: x.A}}
}

// isBeside: y lies wholly on the other side of a side of x. Two triangles without points within in common have such a
// side, one or the other.
func isBeside(list []api.Point, x, y api.Triangle) bool {
	for _, s := range sidesOf(x) {
		a, b := list[s.A], list[s.B]
		if max(turn(a, b, list[y.A]), turn(a, b, list[y.B]), turn(a, b, list[y.C])) <= 0 {
			return true
		}
	}
	return false
}

// isOnBorder: no point lies to the right of the side.
func isOnBorder(list []api.Point, s api.Line) bool {
	return !slices.ContainsFunc(list, func(p api.Point) bool { return turn(list[s.A], list[s.B], p) < 0 })
}

// hullArea is twice the hull's, as turns are twice the triangles'.
func hullArea(list []api.Point) int {
	area := 0
	h, _ := triskel.Hull(list)
	for i := 2; i < len(h); i++ {
		area += turn(list[h[0]], list[h[i-1]], list[h[i]])
	}
	return area
}

// wrongCircle: P4 (c).
func wrongCircle(list []api.Point, triangles []api.Triangle) string {
	for _, x := range triangles {
		for _, p := range list {
			if circle(list[x.A], list[x.B], list[x.C], p) > 0 {
				return "a point within a circle"
			}
		}
	}
	return ""
}
