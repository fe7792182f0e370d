package triskel

import (
	"slices"

	"triskel/api"
	"triskel/plane"
)

// minPoints: fewer have no triangle.
const minPoints = 3

// refusal gives the first of Hull's errors (P3) that applies, or OK. The order is the document's, and each question
// leans on those before it: only different points in bounds can be asked whether they lie on one line.
func refusal(points []api.Point) api.Errno {
	switch {
	case len(points) < minPoints || len(points) > api.MaxPoints:
		return api.ErrCount
	case !allInBounds(points):
		return api.ErrPlace
	case hasTwice(points):
		return api.ErrTwice
	case isFlat(plane.Places(points)):
		return api.ErrFlat
	}
	return api.OK
}

func allInBounds(points []api.Point) bool {
	for _, p := range points {
		if !plane.InBounds(p) {
			return false
		}
	}
	return true
}

func hasTwice(points []api.Point) bool {
	for i, p := range points {
		if slices.Contains(points[:i], p) {
			return true
		}
	}
	return false
}

// isFlat holds all places against the line through the first two, which are known to be different.
func isFlat(places []complex128) bool {
	for _, p := range places[2:] {
		if plane.Turn(places[0], places[1], p) != 0 {
			return false
		}
	}
	return true
}

// lineRefusal gives the first of the errors (P5) of lines between points that are not refused, or OK. Here, too, each
// question leans on those before it.
func lineRefusal(points []api.Point, lines []api.Line) api.Errno {
	switch {
	case len(lines) > api.MaxLines:
		return api.ErrCount
	case !allJoinTwo(points, lines):
		return api.ErrLine
	case isInTheWay(plane.Places(points), lines):
		return api.ErrCross
	}
	return api.OK
}

// allJoinTwo tells whether each line is of two different points: under different numbers these are different ones.
func allJoinTwo(points []api.Point, lines []api.Line) bool {
	for _, l := range lines {
		if min(l.A, l.B) < 0 || max(l.A, l.B) >= len(points) || l.A == l.B {
			return false
		}
	}
	return true
}

// isInTheWay tells whether a place, or a line, is in the way of a line. Two that lie on one another, but are not the same
// line, are found by their ends: one of them goes through an end of the other.
func isInTheWay(places []complex128, lines []api.Line) bool {
	for i, l := range lines {
		a, b := places[l.A], places[l.B]
		if slices.ContainsFunc(places, func(p complex128) bool { return plane.Between(a, b, p) }) {
			return true
		}
		if slices.ContainsFunc(lines[:i], func(o api.Line) bool { return plane.Cross(a, b, places[o.A], places[o.B]) }) {
			return true
		}
	}
	return false
}
