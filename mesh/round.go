package mesh

import "triskel/plane"

// Round changes sides until no place lies within the circle of any triangle. It is enough to look at each side's two
// triangles alone: once neither has the other's far corner within its circle, none has any place within. It ends, as
// each change makes the triangles rounder and there are only so many ways to draw them.
func (m *Mesh) Round() {
	sides := m.sides()
	for sides.Len() > 0 {
		if s := sides.next(); m.isPointed(s) {
			for _, around := range m.turnOver(s) {
				sides.add(around)
			}
		}
	}
}

// sides gives all sides between two triangles, each once, and maybe some of the hull's.
func (m *Mesh) sides() *waiting {
	w := &waiting{}
	for s := range m.across {
		if s.from < s.to {
			w.add(s)
		}
	}
	return w
}

// isPointed tells whether one of a side's two triangles has the far corner of the other within its circle. A side of the
// hull has only one triangle, and a side that was turned over while it waited has none.
func (m *Mesh) isPointed(s side) bool {
	left, hasLeft := m.across[s]
	right, hasRight := m.across[s.back()]
	return hasLeft && hasRight && plane.Within(m.places[s.from], m.places[s.to], m.places[left], m.places[right])
}

// turnOver joins the far corners of a side's two triangles in its stead, and gives the four sides around it. The two
// triangles must make up a shape without a dent, as those of a pointed side do.
func (m *Mesh) turnOver(s side) [4]side {
	left, right := m.across[s], m.across[s.back()]
	delete(m.across, s)
	delete(m.across, s.back())
	m.add(s.from, right, left)
	m.add(right, s.to, left)
	return [4]side{{s.from, right}, {right, s.to}, {s.to, left}, {left, s.from}}
}
