package triskel_test

import (
	"runtime"
	"slices"
	"sync"
	"testing"
	"weak"

	"triskel/api"
	"triskel/triskel"
)

// samples: lists that are taken, and one for each refusal of Hull's.
func samples() [][]api.Point {
	d := dice(3)
	lists := [][]api.Point{points(0, 0, 1, 0), points(0, 0, 0, 2000, 1, 1), points(0, 0, 1, 2, 0, 0), points(0, 0, 1, 2, 2, 4)}
	for count := 3; count <= api.MaxPoints; count++ {
		lists = append(lists, d.scatter(count, 10), d.scatter(count, api.MaxPlace))
	}
	return lists
}

// answers: copies, so that a later call can't change them.
func answers[E any](call func([]api.Point) ([]E, api.Errno), lists [][]api.Point) [][]E {
	var out [][]E
	for _, list := range lists {
		a, _ := call(list)
		out = append(out, slices.Clone(a))
	}
	return out
}

// located: Locate as a call that has points alone: it asks where each point lies among triangles over all of them, one
// of which is to be left out.
func located(list []api.Point) ([]int, api.Errno) {
	triangles := trianglesOver(list)
	var out []int
	for _, p := range list {
		out = append(out, triskel.Locate(list, triangles, p))
	}
	return out, api.OK
}

func trianglesOver(list []api.Point) []api.Triangle {
	triangles := threes(0, 1, len(list))
	for i := range list {
		triangles = append(triangles, threes(i, (i+1)%len(list), (i+2)%len(list))...)
	}
	return triangles
}

// bound: Bound as a call that has points alone: with lines over all of them.
func bound(list []api.Point) ([]api.Triangle, api.Errno) {
	return triskel.Bound(list, linesOver(list))
}

// linesOver: lines that are not refused, if the points aren't.
func linesOver(list []api.Point) []api.Line {
	d := dice(13)
	return d.freeLines(list, api.MaxLines)
}

func TestP2SameAnswerEachTime(t *testing.T) {
	t.Run("Hull", func(t *testing.T) { checkSameEachTime(t, triskel.Hull) })
	t.Run("Triangles", func(t *testing.T) { checkSameEachTime(t, triskel.Triangles) })
	t.Run("Bound", func(t *testing.T) { checkSameEachTime(t, bound) })
	t.Run("Locate", func(t *testing.T) { checkSameEachTime(t, located) })
}

func checkSameEachTime[E comparable](t *testing.T, call func([]api.Point) ([]E, api.Errno)) {
	lists := samples()
	first := answers(call, lists)
	for range 5 {
		for i, list := range slices.Backward(lists) {
			// Another list's memory, and more room behind it, must not be seen in the answer.
			a, _ := call(append(make([]api.Point, 0, 100), list...))
			if !slices.Equal(a, first[i]) {
				t.Fatalf("of %v: %v, and %v before", list, a, first[i])
			}
		}
	}
}

func TestP2SameAnswerSideBySide(t *testing.T) {
	t.Run("Hull", func(t *testing.T) { checkSideBySide(t, triskel.Hull) })
	t.Run("Triangles", func(t *testing.T) { checkSideBySide(t, triskel.Triangles) })
	t.Run("Bound", func(t *testing.T) { checkSideBySide(t, bound) })
	t.Run("Locate", func(t *testing.T) { checkSideBySide(t, located) })
}

func checkSideBySide[E comparable](t *testing.T, call func([]api.Point) ([]E, api.Errno)) {
	lists := samples()
	alone := answers(call, lists)
	var all sync.WaitGroup
	for start := range 8 {
		all.Go(func() {
			for i := range lists {
				at := (i + start*5) % len(lists)
				if a, _ := call(lists[at]); !slices.Equal(a, alone[at]) {
					t.Errorf("of %v: %v, and %v alone", lists[at], a, alone[at])
				}
			}
		})
	}
	all.Wait()
}

// What is handed in is a piece of more: neither what lies before it nor what lies behind it is the program's.
func TestP2NothingIsWrittenInto(t *testing.T) {
	for _, list := range samples() {
		whole := slices.Concat(points(901, 902), list, points(903, 904, 905, 906))
		piece := whole[1 : 1+len(list)]
		triangles := slices.Concat(threes(7, 8, 9), trianglesOver(list), threes(4, 5, 6))
		lines := slices.Concat(pairs(9, 8), linesOver(list), pairs(7, 6, 5, 4))
		ownPoints, ownTriangles, ownLines := slices.Clone(whole), slices.Clone(triangles), slices.Clone(lines)
		triskel.Hull(piece)
		triskel.Triangles(piece)
		triskel.Bound(piece, lines[1:len(lines)-2])
		for _, p := range list {
			triskel.Locate(piece, triangles[1:len(triangles)-1], p)
		}
		if !slices.Equal(whole, ownPoints) {
			t.Errorf("points written into: %v became %v", ownPoints, whole)
		}
		if !slices.Equal(triangles, ownTriangles) {
			t.Errorf("triangles written into: %v became %v", ownTriangles, triangles)
		}
		if !slices.Equal(lines, ownLines) {
			t.Errorf("lines written into: %v became %v", ownLines, lines)
		}
	}
}

// What is written into an answer, its spare room too, or into the points handed in, is seen nowhere else.
func TestP2AnswersAreNewMemory(t *testing.T) {
	t.Run("Hull", func(t *testing.T) { checkNewMemory(t, triskel.Hull, -7) })
	t.Run("Triangles", func(t *testing.T) { checkNewMemory(t, triskel.Triangles, api.Triangle{A: -7, B: -8, C: -9}) })
	t.Run("Bound", func(t *testing.T) { checkNewMemory(t, bound, api.Triangle{A: -7, B: -8, C: -9}) })
}

func checkNewMemory[E comparable](t *testing.T, call func([]api.Point) ([]E, api.Errno), other E) {
	for _, list := range samples() {
		want, _ := call(slices.Clone(list))
		own := slices.Clone(want)
		again, _ := call(list)
		overwrite(again[:cap(again)], other)
		if !slices.Equal(want, own) {
			t.Fatalf("two answers share memory: %v became %v", own, want)
		}
		spare := slices.Clone(want[:cap(want)])
		if third, _ := call(list); !slices.Equal(third, own) {
			t.Fatalf("of %v: %v, and %v before an answer was written into", list, third, own)
		}
		clear(list)
		call(points(7, 7, 8, 9, 9, 7, 8, 8))
		if !slices.Equal(want[:cap(want)], spare) {
			t.Fatalf("a later call, or a change of the points, changed an answer: %v to %v", spare, want[:cap(want)])
		}
	}
}

func overwrite[E any](list []E, other E) {
	for i := range list {
		list[i] = other
	}
}

// Lists that nobody else holds are given free, so no call has kept a way to them.
func TestP2NothingIsKept(t *testing.T) {
	for _, list := range samples() {
		isHeld := handIn(list)
		for range 20 {
			runtime.GC()
			if !isHeld() {
				break
			}
		}
		if isHeld() {
			t.Fatalf("a list was kept, of the points %v", list)
		}
	}
}

// handIn calls with lists of its own, and gives what tells whether any of them is still held.
func handIn(list []api.Point) (isHeld func() bool) {
	own, triangles, lines := slices.Clone(list), trianglesOver(list), linesOver(list)
	triskel.Hull(own)
	triskel.Triangles(own)
	triskel.Bound(own, lines)
	triskel.Locate(own, triangles, own[0])
	ofPoints, ofTriangles, ofLines := weak.Make(&own[0]), weak.Make(&triangles[0]), weak.Make(&lines[0])
	return func() bool { return ofPoints.Value() != nil || ofTriangles.Value() != nil || ofLines.Value() != nil }
}
