// Package mesh: triangles that lie side by side and fill the hull of some places.
package mesh

import (
	"cmp"
	"slices"

	"triskel/api"
	"triskel/plane"
)

// side goes from one place to another, both by their numbers. It is a side of the triangle to its left: the triangle to
// its right has it the other way round.
type side struct {
	from, to int
}

func (s side) back() side {
	return side{s.to, s.from}
}

// upward gives the side from its lesser number to the greater, so that it is the same one either way round.
func (s side) upward() side {
	return side{min(s.from, s.to), max(s.from, s.to)}
}

// Mesh knows its triangles by their sides: for each side the corner that lies across from it. The sides that are lines
// stay as they are, each of them upward.
type Mesh struct {
	places []complex128
	across map[side]int
	lines  []side
}

// New fills the hull with triangles, though not with round ones. The places must be different ones and not all on one
// line, and stay as they are for as long as the mesh is used.
//
// The walk through all places from left to right parts the hull in what lies below it and what lies above it: the
// triangles of the two can't be in each other's way.
func New(places []complex128) *Mesh {
	m := &Mesh{places: places, across: make(map[side]int)}
	order := plane.Rightward(places)
	m.fillRight(order)
	slices.Reverse(order)
	m.fillRight(order)
	return m
}

// fillRight fills all of the hull that lies to the right of the walk through the places in an order: wherever the walk
// turns right it is made shorter, and what it leaves out is a triangle. Places in the middle of a straight way stay, as
// each of them is to be a corner.
func (m *Mesh) fillRight(order []int) {
	var walk []int
	for _, next := range order {
		for len(walk) >= 2 {
			before, last := walk[len(walk)-2], walk[len(walk)-1]
			if plane.Turn(m.places[before], m.places[last], m.places[next]) >= 0 {
				break
			}
			m.add(before, next, last)
			walk = walk[:len(walk)-1]
		}
		walk = append(walk, next)
	}
}

// add puts in the triangle of three corners that turn left.
func (m *Mesh) add(a, b, c int) {
	m.across[side{a, b}] = c
	m.across[side{b, c}] = a
	m.across[side{c, a}] = b
}

// Triangles gives all triangles, by rising A, then B, then C.
func (m *Mesh) Triangles() []api.Triangle {
	var all []api.Triangle
	for s, c := range m.across {
		// Of its three sides only one begins at a triangle's least number.
		if s.from < s.to && s.from < c {
			all = append(all, api.Triangle{A: s.from, B: s.to, C: c})
		}
	}
	slices.SortFunc(all, func(t, u api.Triangle) int {
		return cmp.Or(cmp.Compare(t.A, u.A), cmp.Compare(t.B, u.B), cmp.Compare(t.C, u.C))
	})
	return all
}
