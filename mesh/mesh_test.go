package mesh

import (
	"slices"
	"testing"

	"triskel/api"
)

// The least names come out first, however they came in: by the lesser number, then by the greater.
func TestWaitingIsByName(t *testing.T) {
	w := &waiting{}
	for _, s := range []side{{7, 2}, {1, 9}, {0, 11}, {9, 10}, {3, 1}, {2, 3}, {1, 3}, {11, 1}} {
		w.add(s)
	}
	first := w.next()
	w.add(side{1, 0})
	got := []side{first}
	for w.Len() > 0 {
		got = append(got, w.next())
	}
	want := []side{{0, 11}, {0, 1}, {1, 3}, {1, 3}, {1, 9}, {1, 11}, {2, 3}, {2, 7}, {9, 10}}
	if !slices.Equal(got, want) {
		t.Errorf("sides come out as %v, want %v", got, want)
	}
}

// All sides between two triangles are looked at, each once, the least names first.
func TestAllSidesWait(t *testing.T) {
	m := New([]complex128{2 + 2i, 0, 4, 4 + 4i, 4i})
	var inner []side
	for w := m.sides(); w.Len() > 0; {
		s := w.next()
		if _, between := m.across[s.back()]; between {
			inner = append(inner, s)
		}
	}
	if want := []side{{0, 1}, {0, 2}, {0, 3}, {0, 4}}; !slices.Equal(inner, want) {
		t.Errorf("%v wait, want %v", inner, want)
	}
}

func TestNewFillsBothSidesOfTheWalk(t *testing.T) {
	for _, c := range []struct {
		places []complex128
		want   []api.Triangle
	}{
		{[]complex128{0, 4, 4i}, []api.Triangle{{A: 0, B: 1, C: 2}}},
		{[]complex128{0, 1, 2, 1 + 1i}, []api.Triangle{{A: 0, B: 1, C: 3}, {A: 1, B: 2, C: 3}}},
		{[]complex128{0, 1, 2, 1 - 1i}, []api.Triangle{{A: 0, B: 3, C: 1}, {A: 1, B: 3, C: 2}}},
		{[]complex128{0, 6, 3 + 1i, 3 - 1i}, []api.Triangle{{A: 0, B: 3, C: 2}, {A: 1, B: 2, C: 3}}},
	} {
		own := slices.Clone(c.places)
		if got := New(c.places).Triangles(); !slices.Equal(got, c.want) {
			t.Errorf("New(%v) has %v, want %v", own, got, c.want)
		}
		if !slices.Equal(c.places, own) {
			t.Errorf("New(%v) wrote into its places: %v", own, c.places)
		}
	}
}

// A pointed side is turned over, the four around it stay, and the side that comes instead is not pointed.
func TestTurnOver(t *testing.T) {
	m := New([]complex128{0, 6 + 1i, 7, 4 - 1i})
	if got, want := m.Triangles(), []api.Triangle{{A: 0, B: 3, C: 1}, {A: 1, B: 3, C: 2}}; !slices.Equal(got, want) {
		t.Fatalf("begins with %v", got)
	}
	m.turnOver(side{1, 3})
	if got, want := m.Triangles(), []api.Triangle{{A: 0, B: 2, C: 1}, {A: 0, B: 3, C: 2}}; !slices.Equal(got, want) {
		t.Fatalf("turned over to %v, want %v", got, want)
	}
	// Two triangles have three sides each, and of the side before nothing is left, either way round.
	if len(m.across) != 6 {
		t.Errorf("the sides are %v", m.across)
	}
	if !m.isPointed(side{0, 2}) || !m.isPointed(side{2, 0}) {
		t.Error("the long side is pointed")
	}
	if m.isPointed(side{1, 3}) || m.isPointed(side{0, 1}) || m.isPointed(side{1, 0}) {
		t.Error("a side that is none, or has one triangle, is not pointed")
	}
	m.Round()
	if got, want := m.Triangles(), []api.Triangle{{A: 0, B: 3, C: 1}, {A: 1, B: 3, C: 2}}; !slices.Equal(got, want) {
		t.Errorf("rounded to %v, want %v", got, want)
	}
}

// Four places on one circle are round either way: nothing is changed.
func TestRoundLeavesWhatIsRound(t *testing.T) {
	m := New([]complex128{0, 4, 4 + 4i, 4i})
	before := m.Triangles()
	m.Round()
	if got := m.Triangles(); !slices.Equal(got, before) {
		t.Errorf("%v became %v", before, got)
	}
}

// A change lets the sides around it wait again, so that none stays pointed.
func TestRoundLooksAgain(t *testing.T) {
	var places []complex128
	for i := range 20 {
		places = append(places, complex(float64(i*i), float64(20*i)))
	}
	m := New(places)
	m.Round()
	for s := range m.across {
		if m.isPointed(s) {
			t.Errorf("the side %v is pointed", s)
		}
	}
}

func TestDraw(t *testing.T) {
	kite := []complex128{0, 6, 3 + 1i, 3 - 1i}
	for _, lines := range [][]api.Line{{{A: 0, B: 1}}, {{A: 1, B: 0}}, {{A: 0, B: 1}, {A: 0, B: 2}, {A: 1, B: 0}}} {
		m := New(kite)
		m.Draw(lines)
		want := []api.Triangle{{A: 0, B: 1, C: 2}, {A: 0, B: 3, C: 1}}
		if got := m.Triangles(); !slices.Equal(got, want) {
			t.Errorf("with %v: %v, want %v", lines, got, want)
		}
		m.Round()
		if got := m.Triangles(); !slices.Equal(got, want) {
			t.Errorf("with %v, rounded: %v, want %v", lines, got, want)
		}
	}
}

// What is a side already is left as it is, and stays.
func TestDrawWhatIsThere(t *testing.T) {
	m := New([]complex128{0, 6 + 1i, 7, 4 - 1i})
	m.turnOver(side{1, 3})
	before := m.Triangles()
	m.Draw([]api.Line{{A: 2, B: 0}, {A: 0, B: 1}})
	if got := m.Triangles(); !slices.Equal(got, before) {
		t.Errorf("drawn: %v became %v", before, got)
	}
	if m.isPointed(side{0, 2}) || m.isPointed(side{2, 0}) {
		t.Error("a line is not to be turned over")
	}
	m.Round()
	if got := m.Triangles(); !slices.Equal(got, before) {
		t.Errorf("rounded: %v became %v", before, got)
	}
}

// No side at all gets out of the line's way by one change, and at some of them a change would make a dent.
func TestDrawThroughTeeth(t *testing.T) {
	places := []complex128{0, 100, 20 + 2i, 30 - 8i, 50 + 40i, 60 - 40i, 80 + 3i, 90 - 9i}
	m := New(places)
	m.Draw([]api.Line{{A: 0, B: 1}})
	if !m.isBetween(side{0, 1}) {
		t.Errorf("the line is no side of %v", m.Triangles())
	}
	for s := range m.across {
		from, to := places[s.from], places[s.to]
		if imag(from)*imag(to) < 0 {
			t.Errorf("the side %v crosses the line", s)
		}
	}
}

// Of places on one circle each side is round: the lines' order, and which way round they are, must not choose one.
func TestDrawInAnyOrder(t *testing.T) {
	places := []complex128{5, 4 + 3i, 3 + 4i, 5i, -3 + 4i, -4 + 3i, -5, -4 - 3i, -3 - 4i, -5i, 3 - 4i, 4 - 3i}
	lines := []api.Line{{A: 0, B: 5}, {A: 11, B: 6}, {A: 1, B: 4}, {A: 10, B: 7}}
	drawn := func() []api.Triangle {
		m := New(places)
		m.Draw(lines)
		m.Round()
		return m.Triangles()
	}
	first := drawn()
	for i := range lines {
		for j := range lines {
			lines[i], lines[j] = api.Line{A: lines[j].B, B: lines[j].A}, lines[i]
			own := slices.Clone(lines)
			if got := drawn(); !slices.Equal(got, first) {
				t.Errorf("with %v: %v, and %v before", own, got, first)
			}
			if !slices.Equal(lines, own) {
				t.Errorf("lines written into: %v became %v", own, lines)
			}
		}
	}
}
