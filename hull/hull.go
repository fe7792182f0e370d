// Package hull: the corners of the least convex shape that has all of some places.
package hull

import (
	"slices"

	"triskel/plane"
)

// Corners gives the numbers of the hull's corners: the one with the least real part first (of these that with the least
// imaginary part), then as they follow to the left. The places must be different ones and not all on one line.
func Corners(places []complex128) []int {
	order := plane.Rightward(places)
	below := leftTurns(places, order)
	slices.Reverse(order)
	above := leftTurns(places, order)
	// Each walk ends where the other one begins: its last place is left to the other.
	return slices.Concat(below[:len(below)-1], above[:len(above)-1])
}

// leftTurns walks along places in an order and leaves out all at which the walk would not turn left.
// A place in the middle of a straight way is left out too, as the hull would be the same without it.
func leftTurns(places []complex128, order []int) []int {
	var walk []int
	for _, next := range order {
		for len(walk) >= 2 && !turnsLeft(places, walk, next) {
			walk = walk[:len(walk)-1]
		}
		walk = append(walk, next)
	}
	return walk
}

// turnsLeft tells whether a walk of two places or more turns left where it now ends, if it goes on to next.
func turnsLeft(places []complex128, walk []int, next int) bool {
	before, last := walk[len(walk)-2], walk[len(walk)-1]
	return plane.Turn(places[before], places[last], places[next]) > 0
}
