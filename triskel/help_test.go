package triskel_test

import (
	"slices"

	"triskel/api"
)

// points: two numbers each.
func points(numbers ...int) []api.Point {
	var list []api.Point
	for i := 0; i < len(numbers); i += 2 {
		list = append(list, api.Point{X: numbers[i], Y: numbers[i+1]})
	}
	return list
}

// turn: the document's words, in whole numbers.
func turn(a, b, c api.Point) int {
	return (b.X-a.X)*(c.Y-a.Y) - (b.Y-a.Y)*(c.X-a.X)
}

// dice: numbers that are the same at each run.
type dice uint32

func (d *dice) below(n int) int {
	*d = *d*1664525 + 1013904223
	return int(*d>>8) % n
}

// scatter: different points, that many, with numbers from -reach to reach.
func (d *dice) scatter(count, reach int) []api.Point {
	var list []api.Point
	for len(list) < count {
		p := api.Point{X: d.below(2*reach+1) - reach, Y: d.below(2*reach+1) - reach}
		if !slices.Contains(list, p) {
			list = append(list, p)
		}
	}
	return list
}

func isFlat(list []api.Point) bool {
	return !slices.ContainsFunc(list, func(p api.Point) bool { return turn(list[0], list[1], p) != 0 })
}
