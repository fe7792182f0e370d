package triskel

import (
	"slices"

	"triskel/api"
	"triskel/plane"
)

// minPoints: fewer have no triangle.
const minPoints = 3

// refusal gives the first of Hull's errors (P3) that applies, or OK. The order is the document's, and each question
// leans on those before it: only different points in bounds can be asked whether they lie on one line.
func refusal(points []api.Point) api.Errno {
	switch {
	case len(points) < minPoints || len(points) > api.MaxPoints:
		return api.ErrCount
	case !allInBounds(points):
		return api.ErrPlace
	case hasTwice(points):
		return api.ErrTwice
	case isFlat(plane.Places(points)):
		return api.ErrFlat
	}
	return api.OK
}

func allInBounds(points []api.Point) bool {
	for _, p := range points {
		if !plane.InBounds(p) {
			return false
		}
	}
	return true
}

func hasTwice(points []api.Point) bool {
	for i, p := range points {
		if slices.Contains(points[:i], p) {
			return true
		}
	}
	return false
}

// isFlat holds all places against the line through the first two, which are known to be different.
func isFlat(places []complex128) bool {
	for _, p := range places[2:] {
		if plane.Turn(places[0], places[1], p) != 0 {
			return false
		}
	}
	return true
}
