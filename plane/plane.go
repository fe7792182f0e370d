// Package plane: points as complex numbers, how they turn, what lies within a circle, and what is in a line's way.
package plane

import (
	"cmp"
	"slices"

	"triskel/api"
)

// InBounds tells whether both numbers of a point are from -MaxPlace to MaxPlace.
func InBounds(p api.Point) bool {
	return isNear(p.X) && isNear(p.Y)
}

// isNear compares with both bounds, as the least number there is has no number that is its opposite.
func isNear(n int) bool {
	return -api.MaxPlace <= n && n <= api.MaxPlace
}

// Place gives a point as a complex number. Only a point in bounds is sure to be the same as one.
func Place(p api.Point) complex128 {
	return complex(float64(p.X), float64(p.Y))
}

// Places gives points as complex numbers, under the same numbers as in the list.
func Places(points []api.Point) []complex128 {
	places := make([]complex128, len(points))
	for i, p := range points {
		places[i] = Place(p)
	}
	return places
}

// Rightward gives the numbers of all places, by rising real part, then by rising imaginary part.
func Rightward(places []complex128) []int {
	order := make([]int, len(places))
	for i := range order {
		order[i] = i
	}
	slices.SortFunc(order, func(i, j int) int {
		p, q := places[i], places[j]
		return cmp.Or(cmp.Compare(real(p), real(q)), cmp.Compare(imag(p), imag(q)))
	})
	return order
}

// Turn is above 0, if a, b, c turn left, below 0, if right, 0, if they lie on one line.
// In bounds no part of the product is above 2 * (2 * MaxPlace)^2, so nothing is rounded.
func Turn(a, b, c complex128) float64 {
	return imag(conjugate(b-a) * (c - a))
}

// Cross tells whether the lines between a and b and between c and d cross where neither ends.
func Cross(a, b, c, d complex128) bool {
	return Turn(a, b, c)*Turn(a, b, d) < 0 && Turn(c, d, a)*Turn(c, d, b) < 0
}

// Between tells whether p lies on the line between a and b and is neither of them: both are then in opposite directions
// from it.
func Between(a, b, p complex128) bool {
	return Turn(a, b, p) == 0 && real(conjugate(a-p)*(b-p)) < 0
}

// Within tells whether d lies within the circle through a, b, c, which must turn left: whether it lies below them, if
// each place is lifted by the square of its way from d. The document's sum is that of Below, in another order.
func Within(a, b, c, d complex128) bool {
	return Below(a, b, c, d, func(p complex128) float64 { return square(p - d) })
}

// Below tells whether d lies below the plane through a, b, c, which must turn left, if each place is lifted to its
// height. In bounds, with whole heights that are no further apart than 2 * (2 * MaxPlace)^2, the sum stays below
// 3 * (2 * (2 * MaxPlace)^2)^2, so nothing is rounded.
func Below(a, b, c, d complex128, height func(complex128) float64) bool {
	ground := height(d)
	return (height(a)-ground)*Turn(d, b, c)+(height(b)-ground)*Turn(d, c, a)+(height(c)-ground)*Turn(d, a, b) > 0
}

// square is that of a way's length.
func square(v complex128) float64 {
	return real(conjugate(v) * v)
}

func conjugate(z complex128) complex128 {
	return complex(real(z), -imag(z))
}
