package mesh

import (
	"slices"

	"triskel/plane"
)

// Round changes sides that are no lines until none of them is pointed. Without lines no place then lies within the circle
// of any triangle, though only each side's two triangles are looked at.
func (m *Mesh) Round() {
	m.turnOverAll(m.isPointed)
}

// isPointed tells whether a side is no line, and one of its two triangles has the far corner of the other within its
// circle.
func (m *Mesh) isPointed(s side) bool {
	return !slices.Contains(m.lines, s.upward()) && m.isBetween(s) && plane.Within(m.corners(s))
}
