package triskel_test

import (
	"iter"
	"slices"
	"testing"

	"triskel/api"
	"triskel/triskel"
)

// P7: of n points, h of them on the border, there are 2 n - h - 2 triangles, with lines too.
func TestP7Count(t *testing.T) {
	d := dice(19)
	for list, got := range joined(9) {
		h := 0
		for i := range list {
			if isBorderPoint(list, i) {
				h++
			}
		}
		if len(got) != 2*len(list)-h-2 {
			t.Fatalf("Triangles(%v) = %v: %d of %d points on the border", list, got, h, len(list))
		}
		lines := d.freeLines(list, 5)
		if got, _ := triskel.Bound(list, lines); len(got) != 2*len(list)-h-2 {
			t.Fatalf("Bound(%v, %v) = %v: %d of %d points on the border", list, lines, got, h, len(list))
		}
	}
}

// P7: without lines Bound gives triangles as Triangles must.
func TestP7WithoutLines(t *testing.T) {
	for list := range joined(20) {
		for _, none := range [][]api.Line{nil, {}} {
			got, e := triskel.Bound(list, none)
			if what := wrongTriangles(list, got); e != api.OK || what != "" {
				t.Fatalf("Bound(%v, nil) = %v, %d: %s", list, got, e, what)
			}
		}
	}
}

// joined: lists of all kinds that are taken, each with its triangles.
func joined(seed dice) iter.Seq2[[]api.Point, []api.Triangle] {
	return func(yield func([]api.Point, []api.Triangle) bool) {
		for _, lists := range []iter.Seq[[]api.Point]{gridChoices(), scattered(seed)} {
			for list := range lists {
				triangles, _ := triskel.Triangles(list)
				if !isFlat(list) && !yield(list, triangles) {
					return
				}
			}
		}
	}
}

// isBorderPoint: from it some side of the border goes on to another point.
func isBorderPoint(list []api.Point, i int) bool {
	for j := range list {
		if j != i && isOnBorder(list, api.Line{A: i, B: j}) {
			return true
		}
	}
	return false
}

// P7: the nearest other point of each, if there is only one, is joined to it.
func TestP7Nearest(t *testing.T) {
	for list, got := range joined(10) {
		for i := range list {
			j, only := nearest(list, i)
			if only && !slices.ContainsFunc(got, func(x api.Triangle) bool { return hasCorner(x, i) && hasCorner(x, j) }) {
				t.Fatalf("Triangles(%v) = %v: %d and its nearest %d are not joined", list, got, i, j)
			}
		}
	}
}

// nearest gives the nearest other point of i, and whether there is only one.
func nearest(list []api.Point, i int) (at int, only bool) {
	at = -1
	least := 0
	for j, p := range list {
		_, _, far := less(p, list[i])
		switch {
		case j == i:
		case at < 0 || far < least:
			at, least, only = j, far, true
		case far == least:
			only = false
		}
	}
	return at, only
}

// P7: if no four points lie on one circle, there is only one answer, in whatever order the points are handed in, and
// wherever they are moved together. With lines it is the same, whatever their order.
func TestP7OnlyOneAnswer(t *testing.T) {
	d := dice(11)
	for count := 3; count <= 20; count++ {
		for _, reach := range []int{20, 300} {
			if list := d.scatterOffCircles(count, reach); !isFlat(list) {
				d.checkOnlyOneAnswer(t, unbound, list, nil)
				d.checkOnlyOneAnswer(t, triskel.Bound, list, d.freeLines(list, 1))
				d.checkOnlyOneAnswer(t, triskel.Bound, list, d.freeLines(list, api.MaxLines))
			}
		}
	}
}

// unbound: Triangles as a call that has lines.
func unbound(list []api.Point, _ []api.Line) ([]api.Triangle, api.Errno) {
	return triskel.Triangles(list)
}

func (d *dice) checkOnlyOneAnswer(t *testing.T, call func([]api.Point, []api.Line) ([]api.Triangle, api.Errno), list []api.Point, lines []api.Line) {
	t.Helper()
	first, _ := call(list, lines)
	for range 10 {
		order := d.order(len(list))
		moved := move(list, order, d.below(1401)-700, d.below(1401)-700)
		others := d.moveLines(lines, order)
		got, e := call(moved, others)
		if named := rename(got, order); e != api.OK || !slices.Equal(named, first) {
			t.Fatalf("of %v, %v: %v, %d, and %v of %v, %v", moved, others, got, e, first, list, lines)
		}
	}
}

// P7: as far as points can be moved.
func TestP7OnlyOneAnswerFarAway(t *testing.T) {
	d := dice(12)
	list := d.scatterOffCircles(20, 300)
	order := d.order(20)
	first, _ := triskel.Triangles(list)
	for _, by := range points(700, 700, -700, 700, 700, -700, -700, -700) {
		got, e := triskel.Triangles(move(list, order, by.X, by.Y))
		if e != api.OK || !slices.Equal(rename(got, order), first) {
			t.Fatalf("Triangles(%v), moved by %v, = %v, %d, and %v before", list, by, got, e, first)
		}
	}
}

// scatterOffCircles: as scatter, but no four points on one circle.
func (d *dice) scatterOffCircles(count, reach int) []api.Point {
	var list []api.Point
	for len(list) < count {
		if p := d.scatter(1, reach)[0]; !slices.Contains(list, p) && !isOnACircle(list, p) {
			list = append(list, p)
		}
	}
	return list
}

// isOnACircle: p lies on one circle with three of the list. Four points on one line are on no circle, though their sum
// is 0.
func isOnACircle(list []api.Point, p api.Point) bool {
	for i, a := range list {
		for j, b := range list[:i] {
			for _, c := range list[:j] {
				if turn(a, b, c) != 0 && circle(a, b, c, p) == 0 {
					return true
				}
			}
		}
	}
	return false
}

// order: the numbers below count, in some order.
func (d *dice) order(count int) []int {
	var order []int
	for i := range count {
		order = slices.Insert(order, d.below(i+1), i)
	}
	return order
}

// move gives the points of a list in an order, all moved together.
func move(list []api.Point, order []int, x, y int) []api.Point {
	var moved []api.Point
	for _, i := range order {
		moved = append(moved, api.Point{X: list[i].X + x, Y: list[i].Y + y})
	}
	return moved
}

// moveLines gives lines by the names that the points have in an order, some of them the other way round, in an order of
// their own.
func (d *dice) moveLines(lines []api.Line, order []int) []api.Line {
	var moved []api.Line
	for _, i := range d.order(len(lines)) {
		ends := []int{slices.Index(order, lines[i].A), slices.Index(order, lines[i].B)}
		from := d.below(2)
		moved = append(moved, api.Line{A: ends[from], B: ends[1-from]})
	}
	return moved
}

// rename gives triangles of points in an order by the names that the points had before.
func rename(triangles []api.Triangle, order []int) []api.Triangle {
	var named []api.Triangle
	for _, x := range triangles {
		a, b, c := order[x.A], order[x.B], order[x.C]
		for a > min(b, c) {
			a, b, c = b, c, a
		}
		named = append(named, api.Triangle{A: a, B: b, C: c})
	}
	slices.SortFunc(named, byName)
	return named
}
