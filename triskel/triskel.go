// Package triskel: points in the plane, joined to triangles as round as can be: see DOC.md.
package triskel

import (
	"slices"

	"triskel/api"
	"triskel/hull"
	"triskel/mesh"
	"triskel/plane"
)

// Hull gives the corners of the hull (P3).
func Hull(points []api.Point) ([]int, api.Errno) {
	if e := refusal(points); e != api.OK {
		return nil, e
	}
	return hull.Corners(plane.Places(points)), api.OK
}

// Triangles joins points to triangles (P4): those that no line binds (P7).
func Triangles(points []api.Point) ([]api.Triangle, api.Errno) {
	return Bound(points, nil)
}

// Bound joins points to triangles that have lines among their sides (P5).
func Bound(points []api.Point, lines []api.Line) ([]api.Triangle, api.Errno) {
	if e := refusal(points); e != api.OK {
		return nil, e
	}
	if e := lineRefusal(points, lines); e != api.OK {
		return nil, e
	}
	m := mesh.New(plane.Places(points))
	m.Draw(lines)
	m.Round()
	return m.Triangles(), api.OK
}

// Locate finds the triangle in which a point lies (P6).
func Locate(points []api.Point, triangles []api.Triangle, p api.Point) int {
	if !plane.InBounds(p) {
		return -1
	}
	return slices.IndexFunc(triangles, func(t api.Triangle) bool { return liesIn(points, t, p) })
}
