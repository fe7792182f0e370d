package triskel

import (
	"triskel/api"
	"triskel/plane"
)

// liesIn tells whether p, which is in bounds, lies in a triangle or on its border. In a triangle that is to be left out
// (P6) nothing lies.
func liesIn(points []api.Point, t api.Triangle, p api.Point) bool {
	if !isUsable(points, t.A) || !isUsable(points, t.B) || !isUsable(points, t.C) {
		return false
	}
	a, b, c := plane.Place(points[t.A]), plane.Place(points[t.B]), plane.Place(points[t.C])
	at := plane.Place(p)
	return plane.Turn(a, b, c) > 0 && plane.Turn(a, b, at) >= 0 && plane.Turn(b, c, at) >= 0 && plane.Turn(c, a, at) >= 0
}

// isUsable tells whether a number is that of a point in bounds.
func isUsable(points []api.Point, number int) bool {
	return 0 <= number && number < len(points) && plane.InBounds(points[number])
}
