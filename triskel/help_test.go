package triskel_test

import (
	"iter"
	"slices"
	"testing"

	"triskel/api"
	"triskel/triskel"
)

// points: two numbers each.
func points(numbers ...int) []api.Point {
	var list []api.Point
	for i := 0; i < len(numbers); i += 2 {
		list = append(list, api.Point{X: numbers[i], Y: numbers[i+1]})
	}
	return list
}

// threes: triangles, three numbers each.
func threes(numbers ...int) []api.Triangle {
	var list []api.Triangle
	for i := 0; i < len(numbers); i += 3 {
		list = append(list, api.Triangle{A: numbers[i], B: numbers[i+1], C: numbers[i+2]})
	}
	return list
}

// pairs: lines, two numbers each.
func pairs(numbers ...int) []api.Line {
	var list []api.Line
	for i := 0; i < len(numbers); i += 2 {
		list = append(list, api.Line{A: numbers[i], B: numbers[i+1]})
	}
	return list
}

// turn: the document's words, in whole numbers.
func turn(a, b, c api.Point) int {
	return (b.X-a.X)*(c.Y-a.Y) - (b.Y-a.Y)*(c.X-a.X)
}

// circle: above 0, if d lies within the circle through a, b, c: the document's words, in whole numbers.
func circle(a, b, c, d api.Point) int {
	ax, ay, az := less(a, d)
	bx, by, bz := less(b, d)
	cx, cy, cz := less(c, d)
	return ax*(by*cz-bz*cy) - ay*(bx*cz-bz*cx) + az*(bx*cy-by*cx)
}

func less(p, d api.Point) (x, y, z int) {
	x, y = p.X-d.X, p.Y-d.Y
	return x, y, x*x + y*y
}

// dice: numbers that are the same at each run.
type dice uint32

func (d *dice) below(n int) int {
	*d = *d*1664525 + 1013904223
	return int(*d>>8) % n
}

// scatter: different points, that many, with numbers from -reach to reach.
func (d *dice) scatter(count, reach int) []api.Point {
	var list []api.Point
	for len(list) < count {
		p := api.Point{X: d.below(2*reach+1) - reach, Y: d.below(2*reach+1) - reach}
		if !slices.Contains(list, p) {
			list = append(list, p)
		}
	}
	return list
}

// scattered: lists of every length that is taken, close together and far apart.
func scattered(seed dice) iter.Seq[[]api.Point] {
	return func(yield func([]api.Point) bool) {
		for _, reach := range []int{3, 4, 10, 100, api.MaxPlace} {
			for count := 3; count <= api.MaxPoints; count++ {
				if !yield(seed.scatter(count, reach)) {
					return
				}
			}
		}
	}
}

// gridChoices: every choice of three points or more of a small grid.
func gridChoices() iter.Seq[[]api.Point] {
	return func(yield func([]api.Point) bool) {
		for choice := range 1 << 12 {
			var list []api.Point
			for i := range 12 {
				// Seven steps through twelve places reach each once, so that the list isn't in the order of the grid.
				if at := i * 7 % 12; choice>>at&1 == 1 {
					list = append(list, api.Point{X: at % 4, Y: at / 4})
				}
			}
			if len(list) >= 3 && !yield(list) {
				return
			}
		}
	}
}

func isFlat(list []api.Point) bool {
	return !slices.ContainsFunc(list, func(p api.Point) bool { return turn(list[0], list[1], p) != 0 })
}

// wantErrno asks the calls that have the errors of Hull.
func wantErrno(t *testing.T, list []api.Point, want api.Errno) {
	t.Helper()
	checkErrno(t, "Hull", triskel.Hull, list, want)
	checkErrno(t, "Triangles", triskel.Triangles, list, want)
	checkErrno(t, "Bound without lines", boundByNone, list, want)
}

func boundByNone(list []api.Point) ([]api.Triangle, api.Errno) {
	return triskel.Bound(list, nil)
}

func checkErrno[E any](t *testing.T, name string, call func([]api.Point) ([]E, api.Errno), list []api.Point, want api.Errno) {
	t.Helper()
	if got, e := call(list); e != want || want != api.OK && len(got) > 0 {
		t.Errorf("%s of %d points %v: %v, error %d, want %d", name, len(list), list[:min(len(list), 9)], got, e, want)
	}
}
