package mesh

import (
	"math"

	"triskel/api"
	"triskel/plane"
)

// Draw changes sides until each line is one, and stays one. No line may cross another or go through a place. The lines
// wait as sides do, so that their order, and which way round they are, makes no difference.
func (m *Mesh) Draw(lines []api.Line) {
	w := &waiting{}
	for _, l := range lines {
		w.add(side{l.A, l.B})
	}
	for w.Len() > 0 {
		m.draw(w.next())
	}
}

// draw turns over what is in a line's way. If each place is lifted by how far it lies from the line, the triangles are at
// height 0 at both ends of the line, and above it wherever a side crosses. So at one of these sides at least they are
// folded upward, and nothing is left to turn over only when no side crosses any more: then the line is a side itself.
func (m *Mesh) draw(line side) {
	a, b := m.places[line.from], m.places[line.to]
	height := func(p complex128) float64 { return math.Abs(plane.Turn(a, b, p)) }
	m.turnOverAll(func(s side) bool {
		if !m.isBetween(s) || !plane.Cross(a, b, m.places[s.from], m.places[s.to]) {
			return false
		}
		from, to, left, right := m.corners(s)
		return plane.Below(from, to, left, right, height)
	})
	m.lines = append(m.lines, line)
}
