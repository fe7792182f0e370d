package triskel_test

import (
	"math"
	"testing"

	"triskel/api"
)

// farNumbers: none of them a point's place, all of them outside of bounds.
func farNumbers() []int {
	return []int{math.MinInt, math.MinInt + 1, math.MinInt / 2, -1 << 32, math.MinInt32, -1001, 1001, math.MaxInt32, 1 << 32, 1<<32 + 1, 1 << 53, math.MaxInt / 2, math.MaxInt}
}

// P1: no numbers and no list make Hull or Triangles panic or go on for ever (wantErrno asks both).
func TestP1AnyNumbers(t *testing.T) {
	far := farNumbers()
	for _, n := range far {
		for at := range 8 {
			numbers := []int{0, 0, 5, 0, 5, 5, 0, 5}
			numbers[at] = n
			wantErrno(t, points(numbers...), api.ErrPlace)
		}
		for _, m := range far {
			wantErrno(t, points(n, m, m, n, n, n), api.ErrPlace)
		}
	}
}

func TestP1AnyCount(t *testing.T) {
	wantErrno(t, nil, api.ErrCount)
	wantErrno(t, []api.Point{}, api.ErrCount)
	wantErrno(t, make([]api.Point, 0, 100), api.ErrCount)
	wantErrno(t, make([]api.Point, api.MaxPoints+1), api.ErrCount)
	wantErrno(t, make([]api.Point, 10_000_000), api.ErrCount)
}

// P1: where several errors apply, the first named one is told, whichever of the points it is that has it.
func TestP1FirstNamedError(t *testing.T) {
	tooMany := make([]api.Point, api.MaxPoints+1)
	tooMany[0].X = api.MaxPlace + 1
	for _, c := range []struct {
		list []api.Point
		want api.Errno
	}{
		{points(1001, 0), api.ErrCount},
		{points(0, 0, 0, 0), api.ErrCount},
		{points(1001, 0, 1001, 0), api.ErrCount},
		{tooMany, api.ErrCount},
		{points(0, 0, 0, 0, 1, 0, 0, 1, 0, 1001), api.ErrPlace},
		{points(1001, 0, 1001, 0, 0, 1, 1, 1), api.ErrPlace},
		{points(0, 0, 1, 1, 2, 2, 1001, 1001), api.ErrPlace},
		{points(-1001, 0, 0, 0, 0, 0), api.ErrPlace},
		{points(0, 0, 0, 0, 0, 0), api.ErrTwice},
		{points(0, 0, 0, 0, 1, 1), api.ErrTwice},
		{points(0, 0, 1, 1, 2, 2, 3, 3, 3, 3), api.ErrTwice},
		{make([]api.Point, api.MaxPoints), api.ErrTwice},
	} {
		wantErrno(t, c.list, c.want)
	}
}
