package triskel_test

import (
	"math"
	"slices"
	"testing"

	"triskel/api"
	"triskel/triskel"
)

func TestP6InAndOnTheBorder(t *testing.T) {
	list := points(0, 0, 4, 0, 0, 4)
	for y := -2; y <= 6; y++ {
		for x := -2; x <= 6; x++ {
			want := -1
			if x >= 0 && y >= 0 && x+y <= 4 {
				want = 0
			}
			wantLocate(t, list, threes(0, 1, 2), api.Point{X: x, Y: y}, want)
		}
	}
}

// The first in the list, not the first by its names, and not the least.
func TestP6First(t *testing.T) {
	list := points(0, 0, 4, 0, 0, 4, 4, 4, 2, 1)
	halves := threes(1, 3, 2, 0, 1, 2)
	wantLocate(t, list, halves, api.Point{X: 2, Y: 2}, 0)
	wantLocate(t, list, halves, api.Point{X: 0, Y: 4}, 0)
	wantLocate(t, list, halves, api.Point{X: 1, Y: 2}, 1)
	wantLocate(t, list, halves, api.Point{X: 0, Y: 0}, 1)
	wantLocate(t, list, halves, api.Point{X: 5, Y: 5}, -1)
	// Over one another, and the same one twice.
	wantLocate(t, list, threes(0, 1, 3, 0, 1, 4, 0, 1, 2, 0, 1, 2), api.Point{X: 1, Y: 2}, 2)
	wantLocate(t, list, threes(0, 1, 2, 0, 1, 4), api.Point{X: 2, Y: 1}, 0)
}

// It is enough that a triangle turns left: its least number may be any of the three.
func TestP6AnyCornerFirst(t *testing.T) {
	list := points(0, 0, 4, 0, 0, 4)
	for _, x := range threes(0, 1, 2, 1, 2, 0, 2, 0, 1) {
		wantLocate(t, list, []api.Triangle{x}, api.Point{X: 1, Y: 1}, 0)
		wantLocate(t, list, []api.Triangle{x}, api.Point{X: 3, Y: 3}, -1)
	}
}

func TestP6LeftOut(t *testing.T) {
	list := points(0, 0, 4, 0, 0, 4, 2, 0, 1001, 0, 0, 1001, -1001, 0, 0, -1001, 1000, -1000, -1000, 1000)
	good := api.Triangle{A: 0, B: 1, C: 2}
	for _, x := range threes(
		0, 2, 1, 2, 1, 0, 1, 0, 2, // turn right
		0, 0, 0, 0, 0, 1, 0, 1, 0, 1, 0, 0, 0, 3, 1, 0, 1, 3, // turn nowhere
		-1, 1, 2, 0, -1, 2, 0, 1, -1, 10, 1, 2, 0, 10, 2, 0, 1, 10, // no point's number
		0, 4, 2, 4, 2, 0, 2, 0, 4, 0, 1, 5, 1, 5, 0, 5, 0, 1, 1, 2, 6, 2, 7, 1, // a corner too far away
	) {
		wantLocate(t, list, []api.Triangle{x}, api.Point{X: 0, Y: 0}, -1)
		wantLocate(t, list, []api.Triangle{x}, api.Point{X: 1, Y: 1}, -1)
		wantLocate(t, list, []api.Triangle{x, good, x}, api.Point{X: 0, Y: 0}, 1)
		wantLocate(t, list, []api.Triangle{x, x, good}, api.Point{X: 1, Y: 1}, 2)
	}
	// A corner just in bounds, and other points too far away, are in no triangle's way.
	wantLocate(t, list, threes(0, 8, 1), api.Point{X: 1000, Y: -1000}, 0)
	wantLocate(t, list, threes(0, 2, 9), api.Point{X: -1000, Y: 1000}, 0)
}

func TestP6PointTooFarAway(t *testing.T) {
	list := points(-1000, -1000, 1000, -1000, 1000, 1000, -1000, 1000)
	halves := threes(0, 1, 2, 0, 2, 3)
	for _, far := range farNumbers() {
		for _, p := range points(far, 0, 0, far, far, far, far, -1000, 1000, far) {
			wantLocate(t, list, halves, p, -1)
		}
	}
	wantLocate(t, list, halves, api.Point{X: 1000, Y: 1000}, 0)
	wantLocate(t, list, halves, api.Point{X: -1000, Y: 1000}, 1)
}

// The list of points may be of any length: the points need not be such as Hull takes.
func TestP6AnyList(t *testing.T) {
	origin := api.Point{}
	wantLocate(t, nil, nil, origin, -1)
	wantLocate(t, nil, threes(0, 0, 0, 0, 1, 2), origin, -1)
	wantLocate(t, []api.Point{}, []api.Triangle{}, origin, -1)
	wantLocate(t, points(0, 0, 4, 0, 0, 4), nil, origin, -1)
	wantLocate(t, points(0, 0, 4, 0), threes(0, 1, 2), origin, -1)
	wantLocate(t, points(0, 0, 0, 0, 4, 0, 0, 4, 4, 0), threes(1, 4, 3), origin, 0)
	many := make([]api.Point, 10_000_000)
	copy(many[len(many)-2:], points(4, 0, 0, 4))
	wantLocate(t, many, threes(0, len(many)-2, len(many), 0, len(many)-2, len(many)-1), origin, 1)
	wantLocate(t, many[:3], make([]api.Triangle, 1_000_000), origin, -1)
}

// P1: no numbers make Locate panic.
func TestP6AnyNumbers(t *testing.T) {
	numbers := append(farNumbers(), -2, -1, 0, 1, 2, 3, 4, math.MinInt64+3, math.MaxInt64-3)
	list := points(0, 0, 4, 0, 0, 4, math.MinInt, math.MaxInt)
	for _, a := range numbers {
		for _, b := range numbers {
			for _, c := range numbers {
				triangle := api.Triangle{A: a, B: b, C: c}
				want := -1
				if slices.Contains(threes(0, 1, 2, 1, 2, 0, 2, 0, 1), triangle) {
					want = 0
				}
				wantLocate(t, list, []api.Triangle{triangle}, api.Point{X: 1, Y: 1}, want)
				corners := append(points(a, b, b, c, c, a), list...)
				triskel.Locate(corners, threes(0, 1, 2, 2, 1, 0), api.Point{X: b, Y: a})
			}
		}
	}
}

// Triangles of any kind over any points, a few of them too far away, against the document's words.
func TestP6Scattered(t *testing.T) {
	d := dice(6)
	for list := range scattered(5) {
		reach := max(3, list[0].X, list[0].Y)
		list[d.below(len(list))].X = 1001
		var triangles []api.Triangle
		for range d.below(30) {
			triangles = append(triangles, threes(d.below(len(list)+2)-1, d.below(len(list)+2)-1, d.below(len(list)+2)-1)...)
		}
		for _, p := range d.scatter(20, reach) {
			wantLocate(t, list, triangles, p, locate(list, triangles, p))
		}
	}
}

// Each point lies in a triangle of which it is a corner, as Triangles leaves none out.
func TestP6OfTriangles(t *testing.T) {
	d := dice(7)
	for list := range scattered(8) {
		triangles, e := triskel.Triangles(list)
		if e != api.OK {
			continue
		}
		for _, p := range append(d.scatter(10, 4), list...) {
			wantLocate(t, list, triangles, p, locate(list, triangles, p))
		}
		for i, p := range list {
			if at := triskel.Locate(list, triangles, p); at < 0 || !hasCorner(triangles[at], i) {
				t.Fatalf("Locate(%v, %v, %v) = %d", list, triangles, p, at)
			}
		}
	}
}

func hasCorner(x api.Triangle, i int) bool {
	return x.A == i || x.B == i || x.C == i
}

// locate: the document's words, in whole numbers.
func locate(list []api.Point, triangles []api.Triangle, p api.Point) int {
	bad := func(n int) bool {
		return n < 0 || n >= len(list) || max(list[n].X, list[n].Y, -list[n].X, -list[n].Y) > api.MaxPlace
	}
	for i, x := range triangles {
		if bad(x.A) || bad(x.B) || bad(x.C) {
			continue
		}
		a, b, c := list[x.A], list[x.B], list[x.C]
		if turn(a, b, c) > 0 && min(turn(a, b, p), turn(b, c, p), turn(c, a, p)) >= 0 {
			return i
		}
	}
	return -1
}

func wantLocate(t *testing.T, list []api.Point, triangles []api.Triangle, p api.Point, want int) {
	t.Helper()
	if got := triskel.Locate(list, triangles, p); got != want {
		t.Errorf("Locate(%v, %v, %v) = %d, want %d", list[:min(len(list), 50)], triangles[:min(len(triangles), 50)], p, got, want)
	}
}
