package triskel_test

import (
	"cmp"
	"slices"
	"testing"

	"triskel/api"
	"triskel/triskel"
)

func TestP5Examples(t *testing.T) {
	kite := points(0, 0, 6, 0, 3, 1, 3, -1)
	wantBound(t, kite, nil, threes(0, 3, 2, 1, 2, 3))
	wantBound(t, kite, pairs(0, 1), threes(0, 1, 2, 0, 3, 1))
	wantLineErrno(t, points(0, 0, 2, 0, 4, 0, 0, 3), pairs(0, 2), api.ErrCross)
}

// A line may be there twice, and either way round, beside others, and it may be a side already, or the hull's.
func TestP5SameLineAgain(t *testing.T) {
	kite := points(0, 0, 6, 0, 3, 1, 3, -1)
	for _, lines := range [][]api.Line{
		pairs(1, 0), pairs(0, 1, 0, 1), pairs(0, 1, 1, 0), pairs(1, 0, 2, 0, 0, 1), pairs(0, 2, 2, 1, 1, 3, 3, 0, 0, 1),
		slices.Repeat(pairs(1, 0), api.MaxLines), slices.Repeat(pairs(1, 0, 0, 1, 2, 0, 1, 3), api.MaxLines/4),
	} {
		wantBound(t, kite, lines, threes(0, 1, 2, 0, 3, 1))
	}
	for _, lines := range [][]api.Line{pairs(2, 3), pairs(3, 2, 2, 3), pairs(0, 2, 3, 0, 1, 2, 3, 1)} {
		wantBound(t, kite, lines, threes(0, 3, 2, 1, 2, 3))
	}
}

// Only the line is pointed: what lies farther off is as round as it would be without.
func TestP5RoundBesideTheLine(t *testing.T) {
	list := points(0, 0, 6, 0, 3, 1, 3, -1, 3, 9, 3, -9)
	wantBound(t, list, pairs(0, 1), threes(0, 1, 2, 0, 2, 4, 0, 3, 1, 0, 5, 3, 1, 3, 5, 1, 4, 2))
	wantBound(t, list, nil, threes(0, 2, 4, 0, 3, 2, 0, 5, 3, 1, 2, 3, 1, 3, 5, 1, 4, 2))
}

func TestP5Refusals(t *testing.T) {
	row := points(0, 0, 2, 0, 4, 0, 6, 0, 0, 3, 6, 3, 3, 9)
	for _, c := range []struct {
		lines []api.Line
		want  api.Errno
	}{
		{slices.Repeat(pairs(0, 1), api.MaxLines), api.OK},
		{slices.Repeat(pairs(0, 1), api.MaxLines+1), api.ErrCount},
		{pairs(0, 6), api.OK}, {pairs(6, 0), api.OK}, {pairs(0, 7), api.ErrLine}, {pairs(7, 0), api.ErrLine},
		{pairs(-1, 0), api.ErrLine}, {pairs(0, -1), api.ErrLine}, {pairs(0, 0), api.ErrLine}, {pairs(6, 6), api.ErrLine},
		{pairs(0, 1, 1, 2, 3, 3), api.ErrLine},
		// Through a point, whether a line ends there or not.
		{pairs(0, 2), api.ErrCross}, {pairs(2, 0), api.ErrCross}, {pairs(3, 0), api.ErrCross}, {pairs(1, 3), api.ErrCross},
		{pairs(0, 2, 1, 6), api.ErrCross}, {pairs(1, 6, 4, 5, 0, 2), api.ErrCross},
		// On one straight way, but not on one another.
		{pairs(0, 1, 1, 2, 2, 3), api.OK}, {pairs(0, 1, 3, 2), api.OK},
		// On one another, but not the same.
		{pairs(0, 2, 1, 3), api.ErrCross}, {pairs(0, 1, 0, 2), api.ErrCross}, {pairs(0, 3, 1, 2), api.ErrCross},
		// Across one another, in any order and either way round.
		{pairs(0, 5, 4, 3), api.ErrCross}, {pairs(5, 0, 4, 3), api.ErrCross}, {pairs(4, 3, 0, 5), api.ErrCross}, {pairs(3, 4, 6, 5, 5, 0), api.ErrCross},
		{pairs(6, 1, 4, 5), api.ErrCross}, {pairs(0, 5, 0, 4, 4, 5, 1, 6), api.ErrCross},
		// One would cross the other, if it were longer.
		{pairs(0, 5, 4, 6), api.OK}, {pairs(0, 4, 5, 6), api.OK}, {pairs(6, 4, 0, 1, 3, 5), api.OK},
		// With an end in common.
		{pairs(6, 0, 6, 1, 2, 6, 3, 6), api.OK}, {pairs(0, 4, 4, 5, 5, 3), api.OK},
	} {
		wantLineErrno(t, row, c.lines, c.want)
	}
}

// By as little as there can be, a line goes past a point, or past the end of another line.
func TestP5NearlyInTheWay(t *testing.T) {
	list := points(-1000, -1000, 1000, 999, -999, -999, 999, 998, 0, 0)
	wantLineErrno(t, list, pairs(0, 1), api.OK)
	wantLineErrno(t, list, pairs(0, 1, 2, 4), api.OK)
	wantLineErrno(t, list, pairs(0, 1, 3, 4), api.ErrCross)
	through := points(-1000, -1000, 1000, 1000, -999, -999, 1000, -1000)
	wantLineErrno(t, through, pairs(0, 1), api.ErrCross)
	wantLineErrno(t, through, pairs(0, 2, 2, 1), api.OK)
	wantLineErrno(t, points(-1000, 1000, 1000, -998, 0, 1, 1000, 1000), pairs(1, 0), api.ErrCross)
	wantLineErrno(t, points(-1000, 1000, 1000, -999, 0, 1, 1000, 1000), pairs(1, 0), api.OK)
}

// Every line and every two lines of a small grid, numbers that are no point's among them.
func TestP5EveryTwoLinesOfAGrid(t *testing.T) {
	grid := points(1, 1, 0, 0, 2, 0, 1, 0, 2, 2, 0, 2, 1, 2, 0, 1)
	for a := -1; a <= len(grid); a++ {
		for b := -1; b <= len(grid); b++ {
			checkBound(t, grid, pairs(a, b))
			for c := -1; c <= len(grid); c++ {
				for d := -1; d <= len(grid); d++ {
					checkBound(t, grid, pairs(a, b, c, d))
				}
			}
		}
	}
}

func TestP5EveryChoiceOfAGrid(t *testing.T) {
	d := dice(14)
	for list := range gridChoices() {
		checkBound(t, list, d.freeLines(list, 1+d.below(api.MaxLines)))
	}
}

// Any lines, as many as may be, and now and then one that is in the way.
func TestP5Scattered(t *testing.T) {
	d := dice(15)
	for list := range scattered(16) {
		checkBound(t, list, d.freeLines(list, api.MaxLines))
		lines := d.freeLines(list, api.MaxLines-1)
		for range 10 {
			checkBound(t, list, slices.Concat(lines, pairs(d.below(len(list)), d.below(len(list)))))
		}
	}
}

// A line from one end to the other, with all points above and below it, of which none is seen from both ends.
func TestP5RightThrough(t *testing.T) {
	d := dice(17)
	for count := 4; count <= api.MaxPoints; count++ {
		for _, reach := range []int{1, 3, 40, api.MaxPlace} {
			list := points(-api.MaxPlace, 0, api.MaxPlace, 0)
			for i := range count - 2 {
				height := 1 + d.below(reach)
				if d.below(2) == 0 {
					height = -height
				}
				list = append(list, api.Point{X: (i - count/2) * 30, Y: height})
			}
			checkBound(t, list, pairs(0, 1))
			checkBound(t, list, pairs(1, 0, 0, 1, 0, 2))
		}
	}
}

// Teeth from above and below reach between one another: a side is seldom out of the line's way after one change.
func TestP5Teeth(t *testing.T) {
	for count := 6; count <= api.MaxPoints; count++ {
		list := points(-900, 1, 901, -2)
		for i := range count - 2 {
			tooth := api.Point{X: 20 * (i - count/2), Y: 3 + (i/2)%3*(i*7%11)}
			if i%2 == 1 {
				tooth.Y = -tooth.Y - i%5
			}
			list = append(list, tooth)
		}
		checkBound(t, list, pairs(0, 1))
		checkBound(t, list, pairs(0, 1, 0, 3, 1, 2, 1, 4, 3, 0))
	}
}

// As many lines as may be between as many points as may be: a bundle that goes where no side would be without it.
func TestP5Bundle(t *testing.T) {
	var list []api.Point
	var lines []api.Line
	for i := range api.MaxLines {
		list = append(list, api.Point{X: -1000, Y: 3*i - 30}, api.Point{X: 1000, Y: 100*i - 1000})
		lines = append(lines, api.Line{A: 2*i + i%2, B: 2*i + 1 - i%2})
	}
	checkBound(t, list, lines)
	slices.Reverse(lines)
	checkBound(t, list, lines)
}

// Many points on one circle: there are several answers, and the lines choose among them.
func TestP5OnOneCircle(t *testing.T) {
	ring := onOneCircle()
	d := dice(18)
	for count := 3; count <= api.MaxPoints; count++ {
		checkBound(t, ring[:count], d.freeLines(ring[:count], api.MaxLines))
		around := slices.Concat(points(0, 0), ring[len(ring)-count+1:])
		checkBound(t, around, d.freeLines(around, 7))
	}
}

// freeLines: at most that many lines that are not in one another's way, nor in a point's. Some are there twice.
func (d *dice) freeLines(list []api.Point, most int) []api.Line {
	var lines []api.Line
	for range 10 * most {
		next := api.Line{A: d.below(len(list)), B: d.below(len(list))}
		if more := append(lines, next); len(more) <= most && lineErrno(list, more) == api.OK {
			lines = more
		}
	}
	return lines
}

func wantBound(t *testing.T, list []api.Point, lines []api.Line, want []api.Triangle) {
	t.Helper()
	if got, e := triskel.Bound(list, lines); !slices.Equal(got, want) || e != api.OK {
		t.Errorf("Bound(%v, %v) = %v, %d, want %v", list, lines, got, e, want)
	}
}

func wantLineErrno(t *testing.T, list []api.Point, lines []api.Line, want api.Errno) {
	t.Helper()
	got, e := triskel.Bound(list, lines)
	if e != want || (want == api.OK) != (len(got) > 0) {
		t.Errorf("Bound of %d points %v, %d lines %v: %v, error %d, want %d", len(list), list[:min(len(list), 9)], len(lines), lines[:min(len(lines), 9)], got, e, want)
	}
}

// checkBound holds Bound against the document's words, for different points in bounds and any lines.
func checkBound(t *testing.T, list []api.Point, lines []api.Line) {
	t.Helper()
	want := lineErrno(list, lines)
	if isFlat(list) {
		want = api.ErrFlat
	}
	if want != api.OK {
		wantLineErrno(t, list, lines, want)
		return
	}
	got, e := triskel.Bound(list, lines)
	what := cmp.Or(wrongTriangle(list, got), wrongFill(list, got), wrongAcross(list, lines, got))
	if e != api.OK || what != "" {
		t.Fatalf("Bound(%v, %v) = %v, %d: %s", list, lines, got, e, what)
	}
}

// lineErrno: the document's words for the errors of lines, in whole numbers.
func lineErrno(list []api.Point, lines []api.Line) api.Errno {
	if len(lines) > api.MaxLines {
		return api.ErrCount
	}
	for _, l := range lines {
		if l.A < 0 || l.B < 0 || l.A >= len(list) || l.B >= len(list) || l.A == l.B {
			return api.ErrLine
		}
	}
	for i, l := range lines {
		a, b := list[l.A], list[l.B]
		if slices.ContainsFunc(list, func(p api.Point) bool { return opposite(p, a, b) }) {
			return api.ErrCross
		}
		for _, o := range lines[:i] {
			if c, d := list[o.A], list[o.B]; isPartWay(a, b, c, d) && isPartWay(c, d, a, b) {
				return api.ErrCross
			}
		}
	}
	return api.OK
}

// isPartWay: going from a to b one meets the endless line through c and d after a part of the way, not at its ends.
func isPartWay(a, b, c, d api.Point) bool {
	part := (c.X-a.X)*(d.Y-c.Y) - (c.Y-a.Y)*(d.X-c.X)
	whole := (b.X-a.X)*(d.Y-c.Y) - (b.Y-a.Y)*(d.X-c.X)
	if whole < 0 {
		part, whole = -part, -whole
	}
	return 0 < part && part < whole
}

// wrongAcross: what P5 has instead of P4 (c).
func wrongAcross(list []api.Point, lines []api.Line, triangles []api.Triangle) string {
	third := make(map[api.Line]int)
	for _, x := range triangles {
		third[api.Line{A: x.A, B: x.B}], third[api.Line{A: x.B, B: x.C}], third[api.Line{A: x.C, B: x.A}] = x.C, x.A, x.B
	}
	isLine := make(map[api.Line]bool)
	for _, l := range lines {
		back := api.Line{A: l.B, B: l.A}
		isLine[l], isLine[back] = true, true
		_, one := third[l]
		_, other := third[back]
		if !one && !other {
			return "a line that is no side"
		}
	}
	for s, c := range third {
		fourth, both := third[api.Line{A: s.B, B: s.A}]
		if both && !isLine[s] && circle(list[s.A], list[s.B], list[c], list[fourth]) > 0 {
			return "a fourth point within a circle"
		}
	}
	return ""
}
