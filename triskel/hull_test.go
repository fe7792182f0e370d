package triskel_test

import (
	"cmp"
	"slices"
	"testing"

	"triskel/api"
	"triskel/triskel"
)

func TestP3Examples(t *testing.T) {
	for _, c := range []struct {
		list []api.Point
		want []int
	}{
		{points(0, 0, 4, 0, 0, 4), []int{0, 1, 2}},
		{points(0, 0, 0, 4, 4, 0), []int{0, 2, 1}},
		{points(0, 0, 4, 0, 4, 4, 0, 4, 1, 2), []int{0, 1, 2, 3}},
		{points(0, 0, 2, 0, 4, 0, 0, 3), []int{0, 2, 3}},
		{points(0, 0, 6, 0, 3, 1, 3, -1), []int{0, 3, 1, 2}},
	} {
		wantHull(t, c.list, c.want)
	}
}

// Of several points with the least X the first corner is the lowest, wherever it stands in the list.
func TestP3FirstCorner(t *testing.T) {
	wantHull(t, points(5, -9, 0, 3, 0, 1, 0, 2), []int{2, 0, 1})
	wantHull(t, points(0, 9, 0, -9, -1, 0, 1, 0), []int{2, 1, 3, 0})
	wantHull(t, points(-1000, 1000, -1000, -1000, 1000, 0), []int{1, 2, 0})
}

// Points on the border between two corners are no corners, on a side of any direction.
func TestP3PointsOnTheBorder(t *testing.T) {
	wantHull(t, points(0, 0, 1, 0, 2, 0, 2, 1, 2, 2, 1, 2, 0, 2, 0, 1), []int{0, 2, 4, 6})
	wantHull(t, points(1, 1, 2, 2, 3, 3, 2, 4, 1, 5, 0, 4, -1, 3, 0, 2), []int{6, 0, 2, 4})
	wantHull(t, points(0, 0, 3, 2, 6, 4, 1, 3, 2, 6, 4, 5), []int{0, 2, 4})
}

// The least turn there can be is told from a straight way, as far apart as points can lie.
func TestP3NearlyStraight(t *testing.T) {
	wantHull(t, points(-1000, -1000, 1000, 999, -999, -999), []int{0, 1, 2})
	wantHull(t, points(-1000, -1000, 1000, 1000, 999, 998), []int{0, 2, 1})
	wantHull(t, points(-1000, -1000, 1000, 1000, -999, -1000, 0, 0), []int{0, 2, 1})
	wantHull(t, points(-1000, 1000, 1000, 999, 0, 1000, 0, 999), []int{0, 3, 1, 2})
}

// As many corners as there can be, along a bow that opens upward, and along one that opens downward.
func TestP3AllAreCorners(t *testing.T) {
	var up, down []api.Point
	wantUp, wantDown := []int{}, []int{0}
	for i := range api.MaxPoints {
		x := i - api.MaxPoints/2
		up = append(up, api.Point{X: x, Y: x * x})
		down = append(down, api.Point{X: x, Y: -x * x})
		wantUp = append(wantUp, i)
		wantDown = append(wantDown, api.MaxPoints-1-i)
	}
	wantHull(t, up, wantUp)
	wantHull(t, down, wantDown[:api.MaxPoints])
}

// Every choice of points of a small grid, against the document's word for a corner.
func TestP3EveryChoiceOfAGrid(t *testing.T) {
	for list := range gridChoices() {
		checkHull(t, list)
	}
}

func TestP3Scattered(t *testing.T) {
	for list := range scattered(1) {
		checkHull(t, list)
	}
}

// Triangles has the errors of Hull (P4), so wantErrno holds both against these.
func TestP3Refusals(t *testing.T) {
	d := dice(2)
	for _, c := range []struct {
		list []api.Point
		want api.Errno
	}{
		{points(), api.ErrCount},
		{points(0, 0), api.ErrCount},
		{points(0, 0, 1, 0), api.ErrCount},
		{points(0, 0, 1, 0, 0, 1), api.OK},
		{d.scatter(api.MaxPoints, 50), api.OK},
		{d.scatter(api.MaxPoints+1, 50), api.ErrCount},
		{points(1000, 1000, -1000, -1000, 1000, -1000), api.OK},
		{points(1001, 0, 0, 0, 0, 1), api.ErrPlace},
		{points(0, 0, -1001, 0, 0, 1), api.ErrPlace},
		{points(0, 0, 1, 0, 0, 1001), api.ErrPlace},
		{points(0, 0, 1, 0, 0, -1001), api.ErrPlace},
		{points(0, 0, 0, 0, 1, 1), api.ErrTwice},
		{points(5, 5, 1, 0, 0, 1, 5, 5), api.ErrTwice},
		{points(0, 0, 1, 0, -1000, 1000, 0, 1, -1000, 1000), api.ErrTwice},
		{points(1, 2, 2, 1, -1, 2, -2, 1), api.OK},
		{points(0, 0, 1, 1, 2, 2), api.ErrFlat},
		{points(7, 1, 7, -1000, 7, 1000, 7, 0), api.ErrFlat},
		{points(1, 7, -1000, 7, 1000, 7, 0, 7), api.ErrFlat},
		{points(-1000, 1000, 1000, -1000, 0, 0), api.ErrFlat},
		{points(-1000, -999, 1000, 999, 0, 0), api.ErrFlat},
		{points(1, 0, 0, 0, 2, 0, 3, 0, 4, 1), api.OK},
		{points(4, 1, 0, 0, 2, 0, 3, 0, 1, 0), api.OK},
		{points(0, 0, 4, 1, 2, 0, 3, 0, 1, 0), api.OK},
		{points(0, 0, 1, 0, 4, 1, 3, 0, 2, 0), api.OK},
	} {
		wantErrno(t, c.list, c.want)
	}
}

func wantHull(t *testing.T, list []api.Point, want []int) {
	t.Helper()
	if got, e := triskel.Hull(list); !slices.Equal(got, want) || e != api.OK {
		t.Errorf("Hull(%v) = %v, %d, want %v", list, got, e, want)
	}
}

// checkHull holds Hull against the document's words, for different points in bounds.
func checkHull(t *testing.T, list []api.Point) {
	t.Helper()
	if isFlat(list) {
		wantErrno(t, list, api.ErrFlat)
		return
	}
	got, e := triskel.Hull(list)
	if e != api.OK {
		t.Fatalf("Hull(%v): error %d", list, e)
	}
	if sorted := slices.Sorted(slices.Values(got)); !slices.Equal(sorted, corners(list)) {
		t.Fatalf("Hull(%v) = %v, corners are %v", list, got, corners(list))
	}
	if first := leftmost(list); got[0] != first {
		t.Fatalf("Hull(%v) = %v, %d must be first", list, got, first)
	}
	for i, a := range got {
		b := got[(i+1)%len(got)]
		for c, p := range list {
			// All points lie to the left of each side, so the corners go round just once.
			if side := turn(list[a], list[b], p); side < 0 || side == 0 && c != a && c != b && slices.Contains(got, c) {
				t.Fatalf("Hull(%v) = %v: %d lies not to the left of the side %d %d", list, got, c, a, b)
			}
		}
	}
}

// corners: those that lie in no triangle of the others and between no two of them.
func corners(list []api.Point) []int {
	var out []int
	for i, p := range list {
		others := slices.Delete(slices.Clone(list), i, i+1)
		if !liesAmong(p, others) {
			out = append(out, i)
		}
	}
	return out
}

// liesAmong: p lies in the hull of the others unless, seen from p, they all are less than half a turn apart: all of
// them to the left of one of them, or behind it.
func liesAmong(p api.Point, others []api.Point) bool {
	for _, a := range others {
		if !slices.ContainsFunc(others, func(b api.Point) bool { return turn(p, a, b) < 0 || opposite(p, a, b) }) {
			return false
		}
	}
	return true
}

// opposite: p lies between a and b.
func opposite(p, a, b api.Point) bool {
	return turn(p, a, b) == 0 && (a.X-p.X)*(b.X-p.X)+(a.Y-p.Y)*(b.Y-p.Y) < 0
}

func leftmost(list []api.Point) int {
	first := slices.MinFunc(list, func(a, b api.Point) int { return cmp.Or(cmp.Compare(a.X, b.X), cmp.Compare(a.Y, b.Y)) })
	return slices.Index(list, first)
}
