// Package plane: points as complex numbers, how they turn, and what lies within a circle.
package plane

import (
	"cmp"
	"slices"

	"triskel/api"
)

// InBounds tells whether both numbers of a point are from -MaxPlace to MaxPlace.
func InBounds(p api.Point) bool {
	return isNear(p.X) && isNear(p.Y)
}

// isNear compares with both bounds, as the least number there is has no number that is its opposite.
func isNear(n int) bool {
	return -api.MaxPlace <= n && n <= api.MaxPlace
}

// Place gives a point as a complex number. Only a point in bounds is sure to be the same as one.
func Place(p api.Point) complex128 {
	return complex(float64(p.X), float64(p.Y))
}

// Places gives points as complex numbers, under the same numbers as in the list.
func Places(points []api.Point) []complex128 {
	places := make([]complex128, len(points))
	for i, p := range points {
		places[i] = Place(p)
	}
	return places
}

// Rightward gives the numbers of all places, by rising real part, then by rising imaginary part.
func Rightward(places []complex128) []int {
	order := make([]int, len(places))
	for i := range order {
		order[i] = i
	}
	slices.SortFunc(order, func(i, j int) int {
		p, q := places[i], places[j]
		return cmp.Or(cmp.Compare(real(p), real(q)), cmp.Compare(imag(p), imag(q)))
	})
	return order
}

// Turn is above 0, if a, b, c turn left, below 0, if right, 0, if they lie on one line.
// In bounds no part of the product is above 2 * (2 * MaxPlace)^2, so nothing is rounded.
func Turn(a, b, c complex128) float64 {
	return cross(b-a, c-a)
}

// Within tells whether d lies within the circle through a, b, c, which must turn left. The document's sum is here put in
// order by the squares of the ways from d. In bounds it stays below 3 * (2 * (2 * MaxPlace)^2)^2, so nothing is rounded.
func Within(a, b, c, d complex128) bool {
	a, b, c = a-d, b-d, c-d
	return square(a)*cross(b, c)+square(b)*cross(c, a)+square(c)*cross(a, b) > 0
}

// cross is twice the area between two ways that begin at one place, above 0, if the second lies to the left.
func cross(v, w complex128) float64 {
	return imag(conjugate(v) * w)
}

// square is that of a way's length.
func square(v complex128) float64 {
	return real(conjugate(v) * v)
}

func conjugate(z complex128) complex128 {
	return complex(real(z), -imag(z))
}
