package hull

import (
	"slices"
	"testing"
)

func TestCorners(t *testing.T) {
	for _, c := range []struct {
		places []complex128
		want   []int
	}{
		{[]complex128{0, 4, 4i}, []int{0, 1, 2}},
		{[]complex128{0, 4i, 4}, []int{0, 2, 1}},
		{[]complex128{4 + 4i, 4i, 0, 4, 2 + 2i}, []int{2, 3, 0, 1}},
		{[]complex128{2i, 1i, 0, 1, 2, 2 + 1i, 2 + 2i, 1 + 2i}, []int{2, 4, 6, 0}},
	} {
		own := slices.Clone(c.places)
		if got := Corners(c.places); !slices.Equal(got, c.want) {
			t.Errorf("Corners(%v) = %v, want %v", own, got, c.want)
		}
		if !slices.Equal(c.places, own) {
			t.Errorf("Corners(%v) wrote into its places: %v", own, c.places)
		}
	}
}
