package plane

import (
	"math"
	"testing"

	"triskel/api"
)

// wholeTurn: the document's words for the turn, in whole numbers.
func wholeTurn(a, b, c api.Point) int {
	return (b.X-a.X)*(c.Y-a.Y) - (b.Y-a.Y)*(c.X-a.X)
}

func TestTurnIsTheDocumentsTurn(t *testing.T) {
	var points []api.Point
	numbers := []int{-1000, -999, -1, 0, 1, 998, 1000}
	for _, x := range numbers {
		for _, y := range numbers {
			points = append(points, api.Point{X: x, Y: y})
		}
	}
	for _, a := range points {
		for _, b := range points {
			for _, c := range points {
				got, want := Turn(Place(a), Place(b), Place(c)), wholeTurn(a, b, c)
				if got != float64(want) {
					t.Fatalf("Turn(%v, %v, %v) = %v, want %d", a, b, c, got, want)
				}
			}
		}
	}
}

func TestPlaces(t *testing.T) {
	got := Places([]api.Point{{X: 3, Y: -4}, {X: -1000, Y: 1000}})
	if len(got) != 2 || got[0] != complex(3, -4) || got[1] != complex(-1000, 1000) {
		t.Errorf("Places = %v", got)
	}
	if got := Places(nil); len(got) != 0 {
		t.Errorf("Places(nil) = %v", got)
	}
}

func TestInBounds(t *testing.T) {
	for _, n := range []int{-1000, -999, 0, 999, 1000} {
		if !InBounds(api.Point{X: n, Y: 0}) || !InBounds(api.Point{X: 0, Y: n}) {
			t.Errorf("%d is in bounds", n)
		}
	}
	for _, n := range []int{-1001, 1001, 1 << 32, -1 << 32, 1<<32 + 5, math.MinInt, math.MinInt + 1, math.MaxInt} {
		if InBounds(api.Point{X: n, Y: 0}) || InBounds(api.Point{X: 0, Y: n}) {
			t.Errorf("%d is not in bounds", n)
		}
	}
}
