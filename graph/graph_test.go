package graph

import (
	"math"
	"slices"
	"testing"

	"tracery/api"
	"tracery/sample"
)

const (
	least    = math.MinInt
	greatest = math.MaxInt
)

// Promise 4.1: Right.

func TestRight(t *testing.T) {
	for _, g := range []api.Graph{
		{}, {E: []api.Edge{}}, {N: 1}, {N: 1, E: sample.Edges(0, 0)}, {N: 2, E: sample.Edges(0, 1, 1, 0, 0, 1, 1, 1)},
		{N: 1024}, {N: 1023, E: sample.Edges(1022, 0)}, {N: 512, E: sample.Loops(512)}, {N: 1, E: sample.Loops(1023)},
	} {
		if e := Right(g); e != api.OK {
			t.Errorf("Right of %d vertices and %d edges is %d", g.N, len(g.E), e)
		}
	}
	for i, c := range sample.WrongGraphs() {
		if e := Right(c.G); e != c.Want {
			t.Errorf("%d: Right of %d vertices and %d edges is %d, not %d", i, c.G.N, len(c.G.E), e, c.Want)
		}
	}
}

func TestRightOfSmallGraphs(t *testing.T) {
	for n := range 4 {
		for _, ends := range sample.Lists(4, -1, 0, 1, 2) {
			if len(ends)%2 != 0 {
				continue
			}
			want := api.OK
			if len(ends) > 0 && (slices.Min(ends) < 0 || slices.Max(ends) >= n) {
				want = api.ErrGraph
			}
			if e := Right(api.Graph{N: n, E: sample.Edges(ends...)}); e != want {
				t.Errorf("Right of %d vertices and the ends %v is %d", n, ends, e)
			}
		}
	}
}

// Promise 4.1: RightPart.

func TestRightPart(t *testing.T) {
	g := api.Graph{N: 4, E: sample.Edges(0, 1, 1, 2, 2, 2, 1, 0)}
	for _, c := range []struct {
		p    api.Part
		want api.Errno
	}{
		{api.Part{}, api.OK},
		{api.Part{V: []int{}, E: []int{}}, api.OK},
		{api.Part{V: []int{3}}, api.OK},
		{api.Part{V: []int{0, 1, 2, 3}, E: []int{0, 1, 2, 3}}, api.OK},
		{api.Part{V: []int{0, 1}, E: []int{0, 3}}, api.OK},
		{api.Part{V: []int{2}, E: []int{2}}, api.OK},
		{api.Part{V: []int{0, 1, 3}, E: []int{3}}, api.OK},
		// Lists that don't rise.
		{api.Part{V: []int{1, 0}}, api.ErrPart},
		{api.Part{V: []int{0, 1, 1}}, api.ErrPart},
		{api.Part{V: []int{0, 0}}, api.ErrPart},
		{api.Part{V: []int{1, 0}, E: []int{0}}, api.ErrPart},
		{api.Part{V: []int{0, 1}, E: []int{3, 0}}, api.ErrPart},
		{api.Part{V: []int{0, 1}, E: []int{0, 0}}, api.ErrPart},
		{api.Part{V: []int{0, 1, 2}, E: []int{0, 2, 1}}, api.ErrPart},
		// What the graph hasn't.
		{api.Part{V: []int{-1}}, api.ErrPart},
		{api.Part{V: []int{4}}, api.ErrPart},
		{api.Part{V: []int{0, 1, 2, 3, 4}}, api.ErrPart},
		{api.Part{V: []int{least, 0}}, api.ErrPart},
		{api.Part{V: []int{0, greatest}}, api.ErrPart},
		{api.Part{V: []int{0, 1, 2, 3}, E: []int{-1}}, api.ErrPart},
		{api.Part{V: []int{0, 1, 2, 3}, E: []int{4}}, api.ErrPart},
		{api.Part{V: []int{0, 1, 2, 3}, E: []int{0, 1, 2, 3, 4}}, api.ErrPart},
		{api.Part{V: []int{0, 1, 2, 3}, E: []int{least}}, api.ErrPart},
		{api.Part{V: []int{0, 1, 2, 3}, E: []int{0, greatest}}, api.ErrPart},
		{api.Part{V: make([]int, 1<<18)}, api.ErrPart},
		{api.Part{E: make([]int, 1<<18)}, api.ErrPart},
		// Edges without their ends.
		{api.Part{E: []int{0}}, api.ErrPart},
		{api.Part{V: []int{0}, E: []int{0}}, api.ErrPart},
		{api.Part{V: []int{1}, E: []int{0}}, api.ErrPart},
		{api.Part{V: []int{2, 3}, E: []int{0}}, api.ErrPart},
		{api.Part{V: []int{0, 1, 3}, E: []int{0, 2}}, api.ErrPart},
		{api.Part{V: []int{0, 1}, E: []int{0, 1, 3}}, api.ErrPart},
	} {
		if e := RightPart(g, c.p); e != c.want {
			t.Errorf("RightPart of %d, %v... and %v is %d, not %d", len(c.p.V), c.p.V[:min(9, len(c.p.V))], c.p.E[:min(9, len(c.p.E))], e, c.want)
		}
	}
}

func TestRightPartOfWrongGraphs(t *testing.T) {
	for i, c := range sample.WrongGraphs() {
		// The graph's error comes first, also where the part is none.
		for _, p := range []api.Part{{}, {V: []int{0}}, {V: []int{0}, E: []int{0}}, {V: []int{1, 0}}, {E: []int{-1}}, {V: []int{least, greatest}, E: []int{greatest}}} {
			if e := RightPart(c.G, p); e != c.Want {
				t.Errorf("%d: RightPart of %v is %d, not %d", i, p, e, c.Want)
			}
		}
	}
}

func TestRightPartOfSmallGraphs(t *testing.T) {
	vertices, lists := sample.Lists(3, -1, 0, 1, 2, 3), sample.Lists(2, -1, 0, 1, 2)
	for _, g := range sample.Graphs(3, 2) {
		for _, v := range vertices {
			for _, e := range lists {
				p := api.Part{V: v, E: e}
				if got := RightPart(g, p); got == api.OK != sample.IsPart(g, p) || got != api.OK && got != api.ErrPart {
					t.Fatalf("%v: RightPart of %v is %d", g, p, got)
				}
			}
		}
	}
}

func TestRightPartOfLargeGraphs(t *testing.T) {
	g := sample.Ring(512)
	p := api.Part{V: upTo(512), E: upTo(512)}
	if e := RightPart(g, p); e != api.OK {
		t.Errorf("all of a great graph: %d", e)
	}
	for v := range 512 {
		without := api.Part{V: slices.Delete(upTo(512), v, v+1), E: p.E}
		if e := RightPart(g, without); e != api.ErrPart {
			t.Errorf("without the vertex %d: %d", v, e)
		}
		without.E = slices.DeleteFunc(upTo(512), func(e int) bool { return e == v || e == (v+511)%512 })
		if e := RightPart(g, without); e != api.OK {
			t.Errorf("without the vertex %d and its edges: %d", v, e)
		}
	}
	if e := RightPart(api.Graph{N: 1024}, api.Part{V: upTo(1024)}); e != api.OK {
		t.Errorf("1024 vertices: %d", e)
	}
}

// Promise 4.1: Whole.

func TestWhole(t *testing.T) {
	for _, g := range append(sample.Graphs(3, 2), api.Graph{N: 1024}, api.Graph{N: 1, E: sample.Loops(1023)}, api.Graph{N: 512, E: sample.Loops(512)}) {
		p := Whole(g)
		if len(p.V) != g.N || len(p.E) != len(g.E) || RightPart(g, p) != api.OK {
			t.Fatalf("Whole of %d vertices, %d edges: %v", g.N, len(g.E), p)
		}
		for v, x := range p.V {
			if v != x {
				t.Fatalf("Whole(%v) = %v", g, p)
			}
		}
		for e, x := range p.E {
			if e != x {
				t.Fatalf("Whole(%v) = %v", g, p)
			}
		}
	}
	for i, c := range sample.WrongGraphs() {
		if p := Whole(c.G); !sample.IsEmpty(p) {
			t.Errorf("%d: Whole of a wrong graph has %d vertices and %d edges", i, len(p.V), len(p.E))
		}
	}
}

// Promise 4.1: Ends.

func TestEnds(t *testing.T) {
	g := api.Graph{N: 4, E: sample.Edges(0, 1, 1, 0, 1, 1, 3, 2)}
	for d, want := range [][2]int{{0, 1}, {1, 0}, {1, 0}, {0, 1}, {1, 1}, {1, 1}, {3, 2}, {2, 3}} {
		if from, to, ok := Ends(g, d); from != want[0] || to != want[1] || !ok {
			t.Errorf("Ends of %d: %d, %d, %v", d, from, to, ok)
		}
	}
	for _, d := range []int{-1, -2, -3, -8, 8, 9, 100, least, least + 1, greatest, greatest - 1} {
		if from, to, ok := Ends(g, d); from != 0 || to != 0 || ok {
			t.Errorf("Ends of %d: %d, %d, %v", d, from, to, ok)
		}
	}
	for _, g := range []api.Graph{{}, {N: 3}} {
		for _, d := range []int{-2, -1, 0, 1, 2} {
			if from, to, ok := Ends(g, d); from != 0 || to != 0 || ok {
				t.Errorf("Ends of %d, without edges: %d, %d, %v", d, from, to, ok)
			}
		}
	}
}

func TestEndsAtTheLimit(t *testing.T) {
	g := api.Graph{N: 5, E: append(sample.Loops(1018), api.Edge{A: 3, B: 4})}
	for d, want := range map[int][2]int{2036: {3, 4}, 2037: {4, 3}, 2035: {0, 0}} {
		if from, to, ok := Ends(g, d); from != want[0] || to != want[1] || !ok {
			t.Errorf("Ends of %d: %d, %d, %v", d, from, to, ok)
		}
	}
	if from, to, ok := Ends(g, 2038); from != 0 || to != 0 || ok {
		t.Errorf("Ends of 2038: %d, %d, %v", from, to, ok)
	}
}

func TestEndsOfWrongGraphs(t *testing.T) {
	wrong := append(sample.WrongGraphs(), sample.WrongGraph{G: api.Graph{N: 2, E: sample.Edges(1, 1, 1, 2)}, Want: api.ErrGraph})
	for i, c := range wrong {
		for _, d := range []int{-1, 0, 1, 2, least, greatest} {
			if from, to, ok := Ends(c.G, d); from != 0 || to != 0 || ok {
				t.Errorf("%d: Ends of %d: %d, %d, %v", i, d, from, to, ok)
			}
		}
	}
}

// Promise 4.1: Darts.

func TestDarts(t *testing.T) {
	two := api.Graph{N: 2, E: sample.Edges(0, 1, 1, 1)}
	four := api.Graph{N: 4, E: sample.Edges(0, 1, 1, 0, 1, 1, 2, 0, 2, 2)}
	for _, c := range []struct {
		g    api.Graph
		p    api.Part
		v    int
		want []int
	}{
		{two, Whole(two), 1, []int{1, 2, 3}}, {two, Whole(two), 0, []int{0}},
		{four, Whole(four), 0, []int{0, 3, 7}}, {four, Whole(four), 1, []int{1, 2, 4, 5}}, {four, Whole(four), 2, []int{6, 8, 9}},
		{four, Whole(four), 3, nil}, {four, Whole(four), 4, nil}, {four, Whole(four), -1, nil}, {four, Whole(four), greatest, nil}, {four, Whole(four), least, nil},
		// Only what the part has.
		{four, api.Part{V: []int{0, 1, 2}, E: []int{1, 3}}, 0, []int{3, 7}}, {four, api.Part{V: []int{0, 1, 2}, E: []int{1, 3}}, 1, []int{2}}, {four, api.Part{V: []int{0, 1, 2}, E: []int{1, 3}}, 2, []int{6}},
		{four, api.Part{V: []int{0, 1}}, 1, nil}, {four, api.Part{}, 0, nil}, {four, api.Part{V: []int{0, 1}, E: []int{0}}, 2, nil},
		{api.Graph{}, api.Part{}, 0, nil},
		// Parts that aren't right.
		{four, api.Part{E: []int{0}}, 0, nil}, {four, api.Part{V: []int{0}, E: []int{0}}, 0, nil}, {four, api.Part{V: []int{1, 0}, E: []int{0}}, 0, nil},
		{four, api.Part{V: []int{0, 1}, E: []int{1, 0}}, 0, nil}, {four, api.Part{V: []int{0, 1}, E: []int{0, 0}}, 0, nil}, {four, api.Part{V: []int{0, 1, 2}, E: []int{0, 5}}, 0, nil},
		{four, api.Part{V: []int{0, 1, 4}, E: []int{0}}, 0, nil}, {four, api.Part{V: []int{0, 1}, E: []int{-1, 0}}, 0, nil}, {four, api.Part{V: []int{0, 1}, E: []int{least, 0}}, 0, nil}, {four, api.Part{V: []int{0, 1}, E: []int{0, greatest}}, 0, nil},
	} {
		if l := Darts(c.g, c.p, c.v); !slices.Equal(l, c.want) {
			t.Errorf("Darts of %v at %d: %v, not %v", c.p, c.v, l, c.want)
		}
	}
	for i, c := range sample.WrongGraphs() {
		for _, p := range []api.Part{{}, {V: []int{0}}, {V: []int{0}, E: []int{0}}} {
			if l := Darts(c.G, p, 0); len(l) > 0 {
				t.Errorf("%d: Darts of a wrong graph: %v", i, l)
			}
		}
	}
}

func TestDartsOfSmallGraphs(t *testing.T) {
	for _, g := range sample.Graphs(3, 2) {
		for _, p := range sample.Parts(g) {
			for v := -1; v <= g.N; v++ {
				var want []int
				for d := range 2 * len(g.E) {
					from, _, _ := Ends(g, d)
					if slices.Contains(p.E, d/2) && from == v {
						want = append(want, d)
					}
				}
				if l := Darts(g, p, v); !slices.Equal(l, want) {
					t.Fatalf("%v: Darts of %v at %d: %v", g, p, v, l)
				}
			}
		}
	}
}

// Promise 4.2: Has.

func TestHas(t *testing.T) {
	for _, l := range sample.Rising(least, least+1, -1, 0, 1, 5, greatest-1, greatest) {
		for _, x := range []int{least, least + 1, least + 2, -2, -1, 0, 1, 2, 5, 6, greatest - 2, greatest - 1, greatest} {
			if Has(l, x) != slices.Contains(l, x) {
				t.Errorf("Has(%v, %d) = %v", l, x, Has(l, x))
			}
		}
	}
	if Has(nil, 0) || Has([]int{}, 0) {
		t.Error("a list without numbers has 0")
	}
}

func TestHasOfLongLists(t *testing.T) {
	var l []int
	for x := range 1 << 12 {
		l = append(l, 2*x)
	}
	for x := -1; x <= 1<<13; x++ {
		if Has(l, x) != (0 <= x && x < 1<<13 && x%2 == 0) {
			t.Errorf("Has(even numbers, %d) = %v", x, Has(l, x))
		}
	}
}

// Promise 4.2: And, Or, Same, Within.

// filter answers the numbers that stand in a, in b, or in both, as a function says.
func filter(a, b []int, keep func(inA, inB bool) bool) []int {
	all := slices.Concat(a, b)
	slices.Sort(all)
	return slices.DeleteFunc(slices.Compact(all), func(x int) bool {
		return !keep(slices.Contains(a, x), slices.Contains(b, x))
	})
}

func checkTwo(t *testing.T, a, b api.Part) {
	t.Helper()
	both := func(inA, inB bool) bool { return inA && inB }
	one := func(inA, inB bool) bool { return inA || inB }
	alone := func(inA, inB bool) bool { return inA && !inB }
	if p := And(a, b); !sample.Alike(p, api.Part{V: filter(a.V, b.V, both), E: filter(a.E, b.E, both)}) {
		t.Errorf("And(%v, %v) = %v", a, b, p)
	}
	if p := Or(a, b); !sample.Alike(p, api.Part{V: filter(a.V, b.V, one), E: filter(a.E, b.E, one)}) {
		t.Errorf("Or(%v, %v) = %v", a, b, p)
	}
	if want := len(filter(a.V, b.V, alone))+len(filter(a.E, b.E, alone)) == 0; Within(a, b) != want {
		t.Errorf("Within(%v, %v) = %v", a, b, !want)
	}
	if Same(a, b) != sample.Alike(a, b) {
		t.Errorf("Same(%v, %v) = %v", a, b, Same(a, b))
	}
}

func TestTwoParts(t *testing.T) {
	lists := append(sample.Rising(0, 1, 2), []int{})
	for _, a := range lists {
		for _, b := range lists {
			for _, c := range lists {
				for _, d := range lists {
					checkTwo(t, api.Part{V: a, E: b}, api.Part{V: c, E: d})
				}
			}
		}
	}
}

func TestTwoListsOfOddNumbers(t *testing.T) {
	// Of lists that rise, what they have isn't asked for: here no graph has it.
	lists := sample.Rising(least, -1, 0, 3, greatest-1, greatest)
	for _, a := range lists {
		for _, b := range lists {
			checkTwo(t, api.Part{V: a}, api.Part{V: b})
			checkTwo(t, api.Part{E: a, V: []int{7}}, api.Part{E: b, V: []int{7}})
			checkTwo(t, api.Part{V: a, E: b}, api.Part{V: b, E: a})
		}
	}
}

func TestTwoPartsByHand(t *testing.T) {
	a, b := api.Part{V: []int{0, 1, 2}, E: []int{0, 3}}, api.Part{V: []int{0, 1, 2}, E: []int{2, 3}}
	if p := And(a, b); !sample.Alike(p, api.Part{V: []int{0, 1, 2}, E: []int{3}}) {
		t.Errorf("And = %v", p)
	}
	if p := Or(a, b); !sample.Alike(p, api.Part{V: []int{0, 1, 2}, E: []int{0, 2, 3}}) {
		t.Errorf("Or = %v", p)
	}
	for _, c := range []struct {
		a, b         api.Part
		same, within bool
	}{
		{api.Part{}, api.Part{}, true, true},
		{api.Part{}, api.Part{V: []int{}, E: []int{}}, true, true},
		{api.Part{}, a, false, true},
		{a, api.Part{}, false, false},
		{a, a, true, true},
		{a, b, false, false},
		{api.Part{V: a.V}, a, false, true},
		{a, api.Part{V: a.V}, false, false},
		{api.Part{V: []int{0, 2}, E: a.E}, a, false, true},
		{a, api.Part{V: []int{0, 2}, E: a.E}, false, false},
		// A part's vertices are no edges.
		{api.Part{V: []int{1}}, api.Part{E: []int{1}}, false, false},
	} {
		if Same(c.a, c.b) != c.same || Within(c.a, c.b) != c.within {
			t.Errorf("%v and %v: Same = %v, Within = %v", c.a, c.b, Same(c.a, c.b), Within(c.a, c.b))
		}
	}
}

// Promise 4.2: Drop.

func TestDrop(t *testing.T) {
	for _, l := range sample.Rising(least, -1, 0, 1, 5, greatest) {
		for _, e := range []int{least, -1, 0, 1, 2, 5, 6, greatest} {
			var want []int
			for _, x := range l {
				if x != e {
					want = append(want, x)
				}
			}
			for _, v := range [][]int{nil, {}, {0, 1, 5}} {
				if p := Drop(api.Part{V: v, E: l}, e); !sample.Alike(p, api.Part{V: v, E: want}) {
					t.Errorf("Drop of %d from %v: %v", e, l, p)
				}
			}
		}
	}
}

// Promise 4.3: Span.

func TestSpan(t *testing.T) {
	g := api.Graph{N: 6, E: sample.Edges(0, 1, 1, 1, 4, 2, 1, 0, 5, 4)}
	for _, c := range []struct {
		edges, vertices []int
		want            api.Errno
	}{
		{nil, nil, api.OK},
		{[]int{}, nil, api.OK},
		{[]int{1}, []int{1}, api.OK},
		{[]int{0}, []int{0, 1}, api.OK},
		{[]int{2}, []int{2, 4}, api.OK},
		{[]int{0, 1, 3}, []int{0, 1}, api.OK},
		{[]int{2, 4}, []int{2, 4, 5}, api.OK},
		{[]int{2, 3}, []int{0, 1, 2, 4}, api.OK},
		{[]int{0, 1, 2, 3, 4}, []int{0, 1, 2, 4, 5}, api.OK},
		{[]int{1, 0}, nil, api.ErrPart},
		{[]int{0, 0}, nil, api.ErrPart},
		{[]int{0, 2, 1}, nil, api.ErrPart},
		{[]int{4, 4}, nil, api.ErrPart},
		{[]int{-1}, nil, api.ErrPart},
		{[]int{-1, 0}, nil, api.ErrPart},
		{[]int{5}, nil, api.ErrPart},
		{[]int{0, 1, 2, 3, 4, 5}, nil, api.ErrPart},
		{[]int{least}, nil, api.ErrPart},
		{[]int{0, greatest}, nil, api.ErrPart},
		{make([]int, 1<<18), nil, api.ErrPart},
	} {
		p, e := Span(g, c.edges)
		if e != c.want || !slices.Equal(p.V, c.vertices) || e == api.OK && !slices.Equal(p.E, c.edges) || e != api.OK && !sample.IsEmpty(p) {
			t.Errorf("Span of %v: %v, %d", c.edges[:min(9, len(c.edges))], p, e)
		}
	}
}

func TestSpanOfWrongGraphs(t *testing.T) {
	for i, c := range sample.WrongGraphs() {
		for _, l := range [][]int{nil, {}, {0}, {0, 1}, {1, 0}, {-1}, {greatest}} {
			if p, e := Span(c.G, l); e != c.Want || !sample.IsEmpty(p) {
				t.Errorf("%d: Span of %v: %v, %d, not %d", i, l, p, e, c.Want)
			}
		}
	}
	for _, g := range []api.Graph{{}, {N: 3}} {
		if p, e := Span(g, nil); e != api.OK || !sample.IsEmpty(p) {
			t.Errorf("Span of no edges: %v, %d", p, e)
		}
		if p, e := Span(g, []int{0}); e != api.ErrPart || !sample.IsEmpty(p) {
			t.Errorf("Span of an edge that there isn't: %v, %d", p, e)
		}
	}
}

func TestSpanOfSmallGraphs(t *testing.T) {
	for _, g := range sample.Graphs(3, 2) {
		for _, l := range sample.Lists(3, -1, 0, 1, 2) {
			var ends []int
			want := api.ErrPart
			if sample.IsPart(g, api.Part{V: upTo(g.N), E: l}) {
				want = api.OK
				for _, e := range l {
					ends = append(ends, g.E[e].A, g.E[e].B)
				}
			}
			slices.Sort(ends)
			p, e := Span(g, l)
			if e != want || !slices.Equal(p.V, slices.Compact(ends)) || e == api.OK && !slices.Equal(p.E, l) || e != api.OK && !sample.IsEmpty(p) {
				t.Fatalf("%v: Span of %v: %v, %d", g, l, p, e)
			}
			if e == api.OK && RightPart(g, p) != api.OK {
				t.Fatalf("%v: Span of %v is no right part: %v", g, l, p)
			}
		}
	}
}

// Promise 4.4: darts and their twins.

func TestTwins(t *testing.T) {
	for _, g := range sample.Graphs(3, 2) {
		for d := range 2 * len(g.E) {
			from, to, ok := Ends(g, d)
			back, forth, twin := Ends(g, d^1)
			if !ok || !twin || from != forth || to != back {
				t.Errorf("%v: the dart %d goes from %d to %d, its twin from %d to %d", g, d, from, to, back, forth)
			}
		}
	}
}

func TestEachDartLeavesOnce(t *testing.T) {
	for _, g := range sample.Graphs(3, 2) {
		for _, p := range sample.Parts(g) {
			var all []int
			for _, v := range p.V {
				all = append(all, Darts(g, p, v)...)
			}
			slices.Sort(all)
			var want []int
			for _, e := range p.E {
				want = append(want, 2*e, 2*e+1)
			}
			if !slices.Equal(all, want) {
				t.Errorf("%v: the darts of %v: %v", g, p, all)
			}
		}
	}
}

// Promise 4.4: of right parts And, Or and Drop make right parts.

func TestRightPartsOfRightParts(t *testing.T) {
	for _, g := range sample.Graphs(3, 2) {
		parts := sample.Parts(g)
		for _, a := range parts {
			for e := -1; e <= len(g.E); e++ {
				if p := Drop(a, e); RightPart(g, p) != api.OK || !Within(p, a) {
					t.Fatalf("%v: Drop(%v, %d) = %v", g, a, e, p)
				}
			}
			for _, b := range parts {
				and, or := And(a, b), Or(a, b)
				if RightPart(g, and) != api.OK || RightPart(g, or) != api.OK {
					t.Fatalf("%v: And(%v, %v) = %v, Or = %v", g, a, b, and, or)
				}
				if !Within(and, a) || !Within(and, b) || !Within(a, or) || !Within(b, or) {
					t.Fatalf("%v: And(%v, %v) = %v, Or = %v", g, a, b, and, or)
				}
			}
		}
	}
}

// All promises: whatever is handed in, no call panics.

func TestNothingPanics(t *testing.T) {
	graphs := []api.Graph{{}, {N: 3, E: sample.Edges(0, 1, 1, 2)}}
	for _, c := range sample.WrongGraphs() {
		graphs = append(graphs, c.G)
	}
	lists := [][]int{nil, {}, {0}, {1, 0}, {0, 0}, {2, 2, 1, 1}, {greatest, least}, {least, greatest}, {-1, 0, 5000}, slices.Repeat([]int{3, -3}, 2000)}
	for _, a := range lists {
		for _, b := range lists {
			p, q := api.Part{V: a, E: b}, api.Part{V: b, E: a}
			for _, g := range graphs {
				RightPart(g, p)
				Darts(g, p, 0)
				Span(g, a)
			}
			for _, x := range []int{0, -1, least, greatest} {
				Has(a, x)
				Drop(p, x)
			}
			And(p, q)
			Or(p, q)
			Same(p, q)
			Within(p, q)
		}
	}
}

// All promises: nothing that is handed in changes, nothing that is handed out is shared.

// calls answers the lists of each call's answers; those that answer none are called for what they are handed.
func calls(g api.Graph, p, q api.Part) [][]int {
	span, _ := Span(g, p.E)
	lists := [][]int{Darts(g, p, 0), Darts(g, p, 1)}
	for _, x := range []api.Part{
		Whole(g), And(p, q), Or(p, q), And(p, p), Or(p, p), span, Drop(p, 0), Drop(p, 1), Drop(p, -1),
	} {
		lists = append(lists, x.V, x.E)
	}
	Right(g)
	RightPart(g, p)
	Ends(g, 1)
	Has(p.V, 1)
	Same(p, q)
	Within(p, q)
	return lists
}

func TestNothingIsChangedOrShared(t *testing.T) {
	for _, g := range sample.Graphs(3, 2) {
		parts := sample.Parts(g)
		for i, p := range parts {
			for _, q := range []api.Part{p, parts[len(parts)-1-i]} {
				room := &sample.Room{}
				laidGraph, first, second := room.Graph(g), room.Part(p), room.Part(q)
				if err := room.Fault(func() [][]int { return calls(laidGraph, first, second) }); err != nil {
					t.Fatalf("%v, %v and %v: %v", g, p, q, err)
				}
			}
		}
	}
}
