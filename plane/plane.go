// Package plane: points as complex numbers, and how they turn.
package plane

import "triskel/api"

// InBounds tells whether both numbers of a point are from -MaxPlace to MaxPlace.
func InBounds(p api.Point) bool {
	return isNear(p.X) && isNear(p.Y)
}

// isNear compares with both bounds, as the least number there is has no number that is its opposite.
func isNear(n int) bool {
	return -api.MaxPlace <= n && n <= api.MaxPlace
}

// Place gives a point as a complex number. Only a point in bounds is sure to be the same as one.
func Place(p api.Point) complex128 {
	return complex(float64(p.X), float64(p.Y))
}

// Places gives points as complex numbers, under the same numbers as in the list.
func Places(points []api.Point) []complex128 {
	places := make([]complex128, len(points))
	for i, p := range points {
		places[i] = Place(p)
	}
	return places
}

// Turn is above 0, if a, b, c turn left, below 0, if right, 0, if they lie on one line.
// In bounds no part of the product is above 2 * (2 * MaxPlace)^2, so nothing is rounded.
func Turn(a, b, c complex128) float64 {
	return imag(conjugate(b-a) * (c - a))
}

func conjugate(z complex128) complex128 {
	return complex(real(z), -imag(z))
}
