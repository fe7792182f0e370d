package triskel_test

import (
	"math"
	"slices"
	"testing"

	"triskel/api"
)

// farNumbers: none of them a point's place, all of them outside of bounds.
func farNumbers() []int {
	return []int{math.MinInt, math.MinInt + 1, math.MinInt / 2, -1 << 32, math.MinInt32, -1001, 1001, math.MaxInt32, 1 << 32, 1<<32 + 1, 1 << 53, math.MaxInt / 2, math.MaxInt}
}

// P1: no numbers and no list make Hull, Triangles or Bound panic or go on for ever (wantErrno asks all three).
func TestP1AnyNumbers(t *testing.T) {
	far := farNumbers()
	for _, n := range far {
		for at := range 8 {
			numbers := []int{0, 0, 5, 0, 5, 5, 0, 5}
			numbers[at] = n
			wantErrno(t, points(numbers...), api.ErrPlace)
		}
		for _, m := range far {
			wantErrno(t, points(n, m, m, n, n, n), api.ErrPlace)
		}
	}
}

func TestP1AnyCount(t *testing.T) {
	wantErrno(t, nil, api.ErrCount)
	wantErrno(t, []api.Point{}, api.ErrCount)
	wantErrno(t, make([]api.Point, 0, 100), api.ErrCount)
	wantErrno(t, make([]api.Point, api.MaxPoints+1), api.ErrCount)
	wantErrno(t, make([]api.Point, 10_000_000), api.ErrCount)
}

// P1: where several errors apply, the first named one is told, whichever of the points it is that has it.
func TestP1FirstNamedError(t *testing.T) {
	tooMany := make([]api.Point, api.MaxPoints+1)
	tooMany[0].X = api.MaxPlace + 1
	for _, c := range []struct {
		list []api.Point
		want api.Errno
	}{
		{points(1001, 0), api.ErrCount},
		{points(0, 0, 0, 0), api.ErrCount},
		{points(1001, 0, 1001, 0), api.ErrCount},
		{tooMany, api.ErrCount},
		{points(0, 0, 0, 0, 1, 0, 0, 1, 0, 1001), api.ErrPlace},
		{points(1001, 0, 1001, 0, 0, 1, 1, 1), api.ErrPlace},
		{points(0, 0, 1, 1, 2, 2, 1001, 1001), api.ErrPlace},
		{points(-1001, 0, 0, 0, 0, 0), api.ErrPlace},
		{points(0, 0, 0, 0, 0, 0), api.ErrTwice},
		{points(0, 0, 0, 0, 1, 1), api.ErrTwice},
		{points(0, 0, 1, 1, 2, 2, 3, 3, 3, 3), api.ErrTwice},
		{make([]api.Point, api.MaxPoints), api.ErrTwice},
	} {
		wantErrno(t, c.list, c.want)
	}
}

// P1: no lines make Bound panic or go on for ever. Numbers that are nearly a point's are among them.
func TestP1AnyLines(t *testing.T) {
	list := points(0, 0, 5, 0, 5, 5, 0, 5)
	numbers := append(farNumbers(), -1, -2, -4, 4, 5, 40, 256, 1<<32+2, -1<<32+2)
	for _, n := range numbers {
		for i := range list {
			wantLineErrno(t, list, pairs(n, i), api.ErrLine)
			wantLineErrno(t, list, pairs(i, n), api.ErrLine)
			wantLineErrno(t, list, pairs(0, 1, 1, 2, i, n), api.ErrLine)
		}
		for _, m := range numbers {
			wantLineErrno(t, list, pairs(n, m), api.ErrLine)
		}
	}
}

func TestP1AnyCountOfLines(t *testing.T) {
	list := points(0, 0, 5, 0, 5, 5, 0, 5)
	wantLineErrno(t, list, nil, api.OK)
	wantLineErrno(t, list, []api.Line{}, api.OK)
	wantLineErrno(t, list, make([]api.Line, 0, 100), api.OK)
	wantLineErrno(t, list, make([]api.Line, api.MaxLines+1), api.ErrCount)
	wantLineErrno(t, list, make([]api.Line, 10_000_000), api.ErrCount)
	wantLineErrno(t, nil, nil, api.ErrCount)
	wantLineErrno(t, nil, pairs(0, 1), api.ErrCount)
	wantLineErrno(t, make([]api.Point, 1_000_000), make([]api.Line, 1_000_000), api.ErrCount)
}

// P1: of lines, too, the first named error is told: those of Hull, too many lines, a line that is none, lines in the way.
func TestP1FirstNamedErrorOfLines(t *testing.T) {
	square := points(0, 0, 4, 0, 4, 4, 0, 4, 2, 0)
	tooMany := slices.Repeat(pairs(0, 1), api.MaxLines+1)
	for _, c := range []struct {
		list  []api.Point
		lines []api.Line
		want  api.Errno
	}{
		{points(0, 0, 4, 0), pairs(0, 0), api.ErrCount},
		{make([]api.Point, api.MaxPoints+1), pairs(-1, 0), api.ErrCount},
		{points(0, 0, 4, 0, 1001, 4), tooMany, api.ErrPlace},
		{points(0, 0, 4, 0, 1001, 4), pairs(0, 9), api.ErrPlace},
		{points(0, 0, 4, 0, 0, 4, 4, 0), tooMany, api.ErrTwice},
		{points(0, 0, 4, 0, 0, 4, 4, 0), pairs(1, 3), api.ErrTwice},
		{points(0, 0, 4, 0, 0, 4, 4, 0), pairs(9, 3), api.ErrTwice},
		{points(0, 0, 4, 4, 2, 2), tooMany, api.ErrFlat},
		{points(0, 0, 4, 4, 2, 2), pairs(-1, 0), api.ErrFlat},
		{points(0, 0, 4, 4, 2, 2), pairs(0, 1), api.ErrFlat},
		{square, slices.Concat(tooMany, pairs(0, 9)), api.ErrCount},
		{square, slices.Repeat(pairs(0, 0), api.MaxLines+1), api.ErrCount},
		{square, slices.Repeat(pairs(0, 2, 1, 3), api.MaxLines), api.ErrCount},
		{square, pairs(0, 2, 1, 3, 0, 5), api.ErrLine},
		{square, pairs(0, 1, 4, 4), api.ErrLine},
		{square, pairs(0, 1, -1, 2), api.ErrLine},
		{square, pairs(2, 2, 1, 3, 0, 2), api.ErrLine},
		{square, pairs(0, 2, 1, 3), api.ErrCross},
	} {
		wantLineErrno(t, c.list, c.lines, c.want)
	}
}
