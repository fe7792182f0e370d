package triskel_test

import (
	"runtime"
	"slices"
	"sync"
	"testing"
	"weak"

	"triskel/api"
	"triskel/triskel"
)

// samples: lists that Hull takes, and one for each of its refusals.
func samples() [][]api.Point {
	d := dice(3)
	lists := [][]api.Point{points(0, 0, 1, 0), points(0, 0, 0, 2000, 1, 1), points(0, 0, 1, 2, 0, 0), points(0, 0, 1, 2, 2, 4)}
	for count := 3; count <= api.MaxPoints; count++ {
		lists = append(lists, d.scatter(count, 10), d.scatter(count, api.MaxPlace))
	}
	return lists
}

// answers: copies, so that a later call can't change them.
func answers(lists [][]api.Point) [][]int {
	var out [][]int
	for _, list := range lists {
		h, _ := triskel.Hull(list)
		out = append(out, slices.Clone(h))
	}
	return out
}

func TestP2SameAnswerEachTime(t *testing.T) {
	lists := samples()
	first := answers(lists)
	for i, list := range slices.Backward(lists) {
		// Another list's memory, and more room behind it, must not be seen in the answer.
		h, _ := triskel.Hull(append(make([]api.Point, 0, 100), list...))
		if !slices.Equal(h, first[i]) {
			t.Errorf("Hull(%v) = %v, and %v before", list, h, first[i])
		}
	}
}

func TestP2SameAnswerSideBySide(t *testing.T) {
	lists := samples()
	alone := answers(lists)
	var all sync.WaitGroup
	for start := range 8 {
		all.Go(func() {
			for i := range lists {
				at := (i + start*5) % len(lists)
				if h, _ := triskel.Hull(lists[at]); !slices.Equal(h, alone[at]) {
					t.Errorf("Hull(%v) = %v, and %v alone", lists[at], h, alone[at])
				}
			}
		})
	}
	all.Wait()
}

func TestP2NothingIsWrittenInto(t *testing.T) {
	for _, list := range samples() {
		// The points handed in are a piece of more: neither what lies before it nor what lies behind it is Hull's.
		whole := slices.Concat(points(901, 902), list, points(903, 904, 905, 906))
		own := slices.Clone(whole)
		triskel.Hull(whole[1 : 1+len(list)])
		if !slices.Equal(whole, own) {
			t.Errorf("Hull wrote into %v: %v", own, whole)
		}
	}
}

// What is written into an answer, its spare room too, or into the points handed in, is seen nowhere else.
func TestP2AnswersAreNewMemory(t *testing.T) {
	for _, list := range samples() {
		want, _ := triskel.Hull(slices.Clone(list))
		own := slices.Clone(want)
		again, _ := triskel.Hull(list)
		overwrite(again[:cap(again)])
		if !slices.Equal(want, own) {
			t.Fatalf("two answers share memory: %v became %v", own, want)
		}
		spare := slices.Clone(want[:cap(want)])
		if third, _ := triskel.Hull(list); !slices.Equal(third, own) {
			t.Fatalf("Hull(%v) = %v, and %v before its answer was written into", list, third, own)
		}
		clear(list)
		triskel.Hull(points(7, 7, 8, 9, 9, 7, 8, 8))
		if !slices.Equal(want[:cap(want)], spare) {
			t.Fatalf("a later call, or a change of the points, changed an answer: %v to %v", spare, want[:cap(want)])
		}
	}
}

func overwrite(numbers []int) {
	for i := range numbers {
		numbers[i] = -7
	}
}

// Points that nobody else holds are given free, so Hull has kept no way to them.
func TestP2PointsAreNotKept(t *testing.T) {
	for _, list := range samples() {
		trace := handIn(list)
		for range 20 {
			runtime.GC()
			if trace.Value() == nil {
				break
			}
		}
		if trace.Value() != nil {
			t.Fatalf("Hull has kept the list of %v", list)
		}
	}
}

func handIn(list []api.Point) weak.Pointer[api.Point] {
	own := slices.Clone(list)
	triskel.Hull(own)
	return weak.Make(&own[0])
}
