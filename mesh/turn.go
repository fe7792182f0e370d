package mesh

// turnOverAll turns over sides until none is wrong. At a wrong side its two triangles must be folded upward, if all places
// are lifted to the heights that a bowl has there: such two make up a shape without a dent, and turned over they lie
// lower. So it ends, as the triangles only sink and there are only so many ways to draw them.
func (m *Mesh) turnOverAll(isWrong func(side) bool) {
	sides := m.sides()
	for sides.Len() > 0 {
		if s := sides.next(); isWrong(s) {
			for _, around := range m.turnOver(s) {
				sides.add(around)
			}
		}
	}
}

// sides gives all sides between two triangles, each once, and maybe some of the hull's.
func (m *Mesh) sides() *waiting {
	w := &waiting{}
	for s := range m.across {
		if s.from < s.to {
			w.add(s)
		}
	}
	return w
}

// isBetween tells whether a side is between two triangles. A side of the hull has only one, and a side that was turned
// over while it waited has none.
func (m *Mesh) isBetween(s side) bool {
	_, hasLeft := m.across[s]
	_, hasRight := m.across[s.back()]
	return hasLeft && hasRight
}

// corners gives the places of a side between two triangles, then those of the far corners: of the triangle to its left,
// which turns left as it stands here, and of the one to its right.
func (m *Mesh) corners(s side) (from, to, left, right complex128) {
	return m.places[s.from], m.places[s.to], m.places[m.across[s]], m.places[m.across[s.back()]]
}

// turnOver joins the far corners of a side's two triangles in its stead, and gives the four sides around it. The two
// triangles must make up a shape without a dent, and with no straight corner.
func (m *Mesh) turnOver(s side) [4]side {
	left, right := m.across[s], m.across[s.back()]
	delete(m.across, s)
	delete(m.across, s.back())
	m.add(s.from, right, left)
	m.add(right, s.to, left)
	return [4]side{{s.from, right}, {right, s.to}, {s.to, left}, {left, s.from}}
}
