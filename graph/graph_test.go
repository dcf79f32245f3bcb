package graph

import (
	"math"
	"slices"
	"testing"

	"tracery/api"
)

const (
	least    = math.MinInt
	greatest = math.MaxInt
)

// edges answers edges out of their ends, by twos.
func edges(ends ...int) []api.Edge {
	var l []api.Edge
	for i := 0; i < len(ends); i += 2 {
		l = append(l, api.Edge{A: ends[i], B: ends[i+1]})
	}
	return l
}

// loops answers n loops at 0.
func loops(n int) []api.Edge {
	return make([]api.Edge, n)
}

// listsOf answers all lists of at most most numbers out of numbers.
func listsOf(most int, numbers ...int) [][]int {
	all := [][]int{nil}
	last := all
	for range most {
		var next [][]int
		for _, l := range last {
			for _, x := range numbers {
				next = append(next, append(slices.Clone(l), x))
			}
		}
		all = append(all, next...)
		last = next
	}
	return all
}

// risingOf answers all lists that rise, out of numbers that rise.
func risingOf(numbers ...int) [][]int {
	all := [][]int{nil}
	for _, x := range numbers {
		for _, l := range slices.Clone(all) {
			all = append(all, append(slices.Clone(l), x))
		}
	}
	return all
}

// smallGraphs answers all right graphs of at most three vertices and two edges.
func smallGraphs() []api.Graph {
	var all []api.Graph
	for n := range 4 {
		for _, ends := range listsOf(4, upTo(n)...) {
			if len(ends)%2 == 0 {
				all = append(all, api.Graph{N: n, E: edges(ends...)})
			}
		}
	}
	return all
}

// rightParts answers all right parts of a right graph.
func rightParts(g api.Graph) []api.Part {
	var all []api.Part
	for _, vertices := range risingOf(upTo(g.N)...) {
		for _, edges := range risingOf(upTo(len(g.E))...) {
			if p := (api.Part{V: vertices, E: edges}); isRightPart(g, p) {
				all = append(all, p)
			}
		}
	}
	return all
}

// isRightPart tells of a part of a right graph whether it is right, in the plainest way.
func isRightPart(g api.Graph, p api.Part) bool {
	for i, v := range p.V {
		if v < 0 || v >= g.N || i > 0 && p.V[i-1] >= v {
			return false
		}
	}
	for i, e := range p.E {
		if e < 0 || e >= len(g.E) || i > 0 && p.E[i-1] >= e {
			return false
		}
		if !slices.Contains(p.V, g.E[e].A) || !slices.Contains(p.V, g.E[e].B) {
			return false
		}
	}
	return true
}

func alike(a, b api.Part) bool {
	return slices.Equal(a.V, b.V) && slices.Equal(a.E, b.E)
}

func isEmpty(p api.Part) bool {
	return len(p.V) == 0 && len(p.E) == 0
}

// wrongGraphs answers graphs that aren't right, each with its error.
func wrongGraphs() []struct {
	g    api.Graph
	want api.Errno
} {
	return []struct {
		g    api.Graph
		want api.Errno
	}{
		{api.Graph{N: -1}, api.ErrGraph},
		{api.Graph{N: least}, api.ErrGraph},
		{api.Graph{N: -1, E: edges(0, 0)}, api.ErrGraph},
		// N and the edges beyond MaxSize, and sums of them that don't fit.
		{api.Graph{N: 1025}, api.ErrLarge},
		{api.Graph{N: 1024, E: loops(1)}, api.ErrLarge},
		{api.Graph{N: 512, E: loops(513)}, api.ErrLarge},
		{api.Graph{N: 1, E: loops(1024)}, api.ErrLarge},
		{api.Graph{N: 1, E: loops(1 << 18)}, api.ErrLarge},
		{api.Graph{N: 1 << 32}, api.ErrLarge},
		{api.Graph{N: greatest}, api.ErrLarge},
		{api.Graph{N: greatest, E: loops(1)}, api.ErrLarge},
		{api.Graph{N: greatest - 1023, E: loops(1024)}, api.ErrLarge},
		// Ends that are none of the vertices.
		{api.Graph{E: edges(0, 0)}, api.ErrGraph},
		{api.Graph{E: loops(1024)}, api.ErrGraph},
		{api.Graph{N: 1, E: edges(1, 0)}, api.ErrGraph},
		{api.Graph{N: 1, E: edges(0, 1)}, api.ErrGraph},
		{api.Graph{N: 2, E: edges(0, 1, -1, 0)}, api.ErrGraph},
		{api.Graph{N: 2, E: edges(0, 1, 0, -1)}, api.ErrGraph},
		{api.Graph{N: 2, E: edges(0, 1, 1, 0, 1, 2)}, api.ErrGraph},
		{api.Graph{N: 2, E: edges(greatest, 0)}, api.ErrGraph},
		{api.Graph{N: 2, E: edges(0, least)}, api.ErrGraph},
		{api.Graph{N: 512, E: append(loops(511), api.Edge{A: 512})}, api.ErrGraph},
		// The first of two errors: N below 0, then the size, then the ends.
		{api.Graph{N: -1, E: loops(1026)}, api.ErrGraph},
		{api.Graph{N: least, E: loops(2000)}, api.ErrGraph},
		{api.Graph{N: -1, E: edges(5, 5)}, api.ErrGraph},
		{api.Graph{N: 1025, E: edges(-1, 5000)}, api.ErrLarge},
		{api.Graph{E: loops(1025)}, api.ErrLarge},
		{api.Graph{N: 1, E: append(loops(1023), api.Edge{A: -1})}, api.ErrLarge},
	}
}

// Promise 4.1: Right.

func TestRight(t *testing.T) {
	for _, g := range []api.Graph{
		{}, {E: []api.Edge{}}, {N: 1}, {N: 1, E: edges(0, 0)}, {N: 2, E: edges(0, 1, 1, 0, 0, 1, 1, 1)},
		{N: 1024}, {N: 1023, E: edges(1022, 0)}, {N: 512, E: loops(512)}, {N: 1, E: loops(1023)},
	} {
		if e := Right(g); e != api.OK {
			t.Errorf("Right of %d vertices and %d edges is %d", g.N, len(g.E), e)
		}
	}
	for i, c := range wrongGraphs() {
		if e := Right(c.g); e != c.want {
			t.Errorf("%d: Right of %d vertices and %d edges is %d, not %d", i, c.g.N, len(c.g.E), e, c.want)
		}
	}
}

func TestRightOfSmallGraphs(t *testing.T) {
	for n := range 4 {
		for _, ends := range listsOf(4, -1, 0, 1, 2) {
			if len(ends)%2 != 0 {
				continue
			}
			want := api.OK
			if len(ends) > 0 && (slices.Min(ends) < 0 || slices.Max(ends) >= n) {
				want = api.ErrGraph
			}
			if e := Right(api.Graph{N: n, E: edges(ends...)}); e != want {
				t.Errorf("Right of %d vertices and the ends %v is %d", n, ends, e)
			}
		}
	}
}

// Promise 4.1: RightPart.

func TestRightPart(t *testing.T) {
	g := api.Graph{N: 4, E: edges(0, 1, 1, 2, 2, 2, 1, 0)}
	for _, c := range []struct {
		p    api.Part
		want api.Errno
	}{
		{api.Part{}, api.OK},
		{api.Part{V: []int{}, E: []int{}}, api.OK},
		{api.Part{V: []int{3}}, api.OK},
		{api.Part{V: []int{0, 1, 2, 3}, E: []int{0, 1, 2, 3}}, api.OK},
		{api.Part{V: []int{0, 1}, E: []int{0, 3}}, api.OK},
		{api.Part{V: []int{2}, E: []int{2}}, api.OK},
		{api.Part{V: []int{0, 1, 3}, E: []int{3}}, api.OK},
		// Lists that don't rise.
		{api.Part{V: []int{1, 0}}, api.ErrPart},
		{api.Part{V: []int{0, 1, 1}}, api.ErrPart},
		{api.Part{V: []int{0, 0}}, api.ErrPart},
		{api.Part{V: []int{1, 0}, E: []int{0}}, api.ErrPart},
		{api.Part{V: []int{0, 1}, E: []int{3, 0}}, api.ErrPart},
		{api.Part{V: []int{0, 1}, E: []int{0, 0}}, api.ErrPart},
		{api.Part{V: []int{0, 1, 2}, E: []int{0, 2, 1}}, api.ErrPart},
		// What the graph hasn't.
		{api.Part{V: []int{-1}}, api.ErrPart},
		{api.Part{V: []int{4}}, api.ErrPart},
		{api.Part{V: []int{0, 1, 2, 3, 4}}, api.ErrPart},
		{api.Part{V: []int{least, 0}}, api.ErrPart},
		{api.Part{V: []int{0, greatest}}, api.ErrPart},
		{api.Part{V: []int{0, 1, 2, 3}, E: []int{-1}}, api.ErrPart},
		{api.Part{V: []int{0, 1, 2, 3}, E: []int{4}}, api.ErrPart},
		{api.Part{V: []int{0, 1, 2, 3}, E: []int{0, 1, 2, 3, 4}}, api.ErrPart},
		{api.Part{V: []int{0, 1, 2, 3}, E: []int{least}}, api.ErrPart},
		{api.Part{V: []int{0, 1, 2, 3}, E: []int{0, greatest}}, api.ErrPart},
		{api.Part{V: make([]int, 1<<18)}, api.ErrPart},
		{api.Part{E: make([]int, 1<<18)}, api.ErrPart},
		// Edges without their ends.
		{api.Part{E: []int{0}}, api.ErrPart},
		{api.Part{V: []int{0}, E: []int{0}}, api.ErrPart},
		{api.Part{V: []int{1}, E: []int{0}}, api.ErrPart},
		{api.Part{V: []int{2, 3}, E: []int{0}}, api.ErrPart},
		{api.Part{V: []int{0, 1, 3}, E: []int{0, 2}}, api.ErrPart},
		{api.Part{V: []int{0, 1}, E: []int{0, 1, 3}}, api.ErrPart},
	} {
		if e := RightPart(g, c.p); e != c.want {
			t.Errorf("RightPart of %d, %v... and %v is %d, not %d", len(c.p.V), c.p.V[:min(9, len(c.p.V))], c.p.E[:min(9, len(c.p.E))], e, c.want)
		}
	}
}

func TestRightPartOfWrongGraphs(t *testing.T) {
	for i, c := range wrongGraphs() {
		// The graph's error comes first, also where the part is none.
		for _, p := range []api.Part{{}, {V: []int{0}}, {V: []int{0}, E: []int{0}}, {V: []int{1, 0}}, {E: []int{-1}}, {V: []int{least, greatest}, E: []int{greatest}}} {
			if e := RightPart(c.g, p); e != c.want {
				t.Errorf("%d: RightPart of %v is %d, not %d", i, p, e, c.want)
			}
		}
	}
}

func TestRightPartOfSmallGraphs(t *testing.T) {
	vertices, lists := listsOf(3, -1, 0, 1, 2, 3), listsOf(2, -1, 0, 1, 2)
	for _, g := range smallGraphs() {
		for _, v := range vertices {
			for _, e := range lists {
				p := api.Part{V: v, E: e}
				if got := RightPart(g, p); got == api.OK != isRightPart(g, p) || got != api.OK && got != api.ErrPart {
					t.Fatalf("%v: RightPart of %v is %d", g, p, got)
				}
			}
		}
	}
}

func TestRightPartOfLargeGraphs(t *testing.T) {
	g := api.Graph{N: 512}
	for v := range 512 {
		g.E = append(g.E, api.Edge{A: v, B: (v + 1) % 512})
	}
	p := api.Part{V: upTo(512), E: upTo(512)}
	if e := RightPart(g, p); e != api.OK {
		t.Errorf("all of a great graph: %d", e)
	}
	for v := range 512 {
		without := api.Part{V: slices.Delete(upTo(512), v, v+1), E: p.E}
		if e := RightPart(g, without); e != api.ErrPart {
			t.Errorf("without the vertex %d: %d", v, e)
		}
		without.E = slices.DeleteFunc(upTo(512), func(e int) bool { return e == v || e == (v+511)%512 })
		if e := RightPart(g, without); e != api.OK {
			t.Errorf("without the vertex %d and its edges: %d", v, e)
		}
	}
	if e := RightPart(api.Graph{N: 1024}, api.Part{V: upTo(1024)}); e != api.OK {
		t.Errorf("1024 vertices: %d", e)
	}
}

// Promise 4.1: Whole.

func TestWhole(t *testing.T) {
	for _, g := range append(smallGraphs(), api.Graph{N: 1024}, api.Graph{N: 1, E: loops(1023)}, api.Graph{N: 512, E: loops(512)}) {
		p := Whole(g)
		if len(p.V) != g.N || len(p.E) != len(g.E) || RightPart(g, p) != api.OK {
			t.Fatalf("Whole of %d vertices, %d edges: %v", g.N, len(g.E), p)
		}
		for v, x := range p.V {
			if v != x {
				t.Fatalf("Whole(%v) = %v", g, p)
			}
		}
		for e, x := range p.E {
			if e != x {
				t.Fatalf("Whole(%v) = %v", g, p)
			}
		}
	}
	for i, c := range wrongGraphs() {
		if p := Whole(c.g); !isEmpty(p) {
			t.Errorf("%d: Whole of a wrong graph has %d vertices and %d edges", i, len(p.V), len(p.E))
		}
	}
}

// Promise 4.1: Ends.

func TestEnds(t *testing.T) {
	g := api.Graph{N: 4, E: edges(0, 1, 1, 0, 1, 1, 3, 2)}
	for d, want := range [][2]int{{0, 1}, {1, 0}, {1, 0}, {0, 1}, {1, 1}, {1, 1}, {3, 2}, {2, 3}} {
		if from, to, ok := Ends(g, d); from != want[0] || to != want[1] || !ok {
			t.Errorf("Ends of %d: %d, %d, %v", d, from, to, ok)
		}
	}
	for _, d := range []int{-1, -2, -3, -8, 8, 9, 100, least, least + 1, greatest, greatest - 1} {
		if from, to, ok := Ends(g, d); from != 0 || to != 0 || ok {
			t.Errorf("Ends of %d: %d, %d, %v", d, from, to, ok)
		}
	}
	for _, g := range []api.Graph{{}, {N: 3}} {
		for _, d := range []int{-2, -1, 0, 1, 2} {
			if from, to, ok := Ends(g, d); from != 0 || to != 0 || ok {
				t.Errorf("Ends of %d, without edges: %d, %d, %v", d, from, to, ok)
			}
		}
	}
}

func TestEndsAtTheLimit(t *testing.T) {
	g := api.Graph{N: 5, E: append(loops(1018), api.Edge{A: 3, B: 4})}
	for d, want := range map[int][2]int{2036: {3, 4}, 2037: {4, 3}, 2035: {0, 0}} {
		if from, to, ok := Ends(g, d); from != want[0] || to != want[1] || !ok {
			t.Errorf("Ends of %d: %d, %d, %v", d, from, to, ok)
		}
	}
	if from, to, ok := Ends(g, 2038); from != 0 || to != 0 || ok {
		t.Errorf("Ends of 2038: %d, %d, %v", from, to, ok)
	}
}

func TestEndsOfWrongGraphs(t *testing.T) {
	wrong := append(wrongGraphs(), struct {
		g    api.Graph
		want api.Errno
	}{api.Graph{N: 2, E: edges(1, 1, 1, 2)}, api.ErrGraph})
	for i, c := range wrong {
		for _, d := range []int{-1, 0, 1, 2, least, greatest} {
			if from, to, ok := Ends(c.g, d); from != 0 || to != 0 || ok {
				t.Errorf("%d: Ends of %d: %d, %d, %v", i, d, from, to, ok)
			}
		}
	}
}

// Promise 4.1: Darts.

func TestDarts(t *testing.T) {
	two := api.Graph{N: 2, E: edges(0, 1, 1, 1)}
	four := api.Graph{N: 4, E: edges(0, 1, 1, 0, 1, 1, 2, 0, 2, 2)}
	for _, c := range []struct {
		g    api.Graph
		p    api.Part
		v    int
		want []int
	}{
		{two, Whole(two), 1, []int{1, 2, 3}}, {two, Whole(two), 0, []int{0}},
		{four, Whole(four), 0, []int{0, 3, 7}}, {four, Whole(four), 1, []int{1, 2, 4, 5}}, {four, Whole(four), 2, []int{6, 8, 9}},
		{four, Whole(four), 3, nil}, {four, Whole(four), 4, nil}, {four, Whole(four), -1, nil}, {four, Whole(four), greatest, nil}, {four, Whole(four), least, nil},
		// Only what the part has.
		{four, api.Part{V: []int{0, 1, 2}, E: []int{1, 3}}, 0, []int{3, 7}}, {four, api.Part{V: []int{0, 1, 2}, E: []int{1, 3}}, 1, []int{2}}, {four, api.Part{V: []int{0, 1, 2}, E: []int{1, 3}}, 2, []int{6}},
		{four, api.Part{V: []int{0, 1}}, 1, nil}, {four, api.Part{}, 0, nil}, {four, api.Part{V: []int{0, 1}, E: []int{0}}, 2, nil},
		{api.Graph{}, api.Part{}, 0, nil},
		// Parts that aren't right.
		{four, api.Part{E: []int{0}}, 0, nil}, {four, api.Part{V: []int{0}, E: []int{0}}, 0, nil}, {four, api.Part{V: []int{1, 0}, E: []int{0}}, 0, nil},
		{four, api.Part{V: []int{0, 1}, E: []int{1, 0}}, 0, nil}, {four, api.Part{V: []int{0, 1}, E: []int{0, 0}}, 0, nil}, {four, api.Part{V: []int{0, 1, 2}, E: []int{0, 5}}, 0, nil},
		{four, api.Part{V: []int{0, 1, 4}, E: []int{0}}, 0, nil}, {four, api.Part{V: []int{0, 1}, E: []int{-1, 0}}, 0, nil}, {four, api.Part{V: []int{0, 1}, E: []int{least, 0}}, 0, nil}, {four, api.Part{V: []int{0, 1}, E: []int{0, greatest}}, 0, nil},
	} {
		if l := Darts(c.g, c.p, c.v); !slices.Equal(l, c.want) {
			t.Errorf("Darts of %v at %d: %v, not %v", c.p, c.v, l, c.want)
		}
	}
	for i, c := range wrongGraphs() {
		for _, p := range []api.Part{{}, {V: []int{0}}, {V: []int{0}, E: []int{0}}} {
			if l := Darts(c.g, p, 0); len(l) > 0 {
				t.Errorf("%d: Darts of a wrong graph: %v", i, l)
			}
		}
	}
}

func TestDartsOfSmallGraphs(t *testing.T) {
	for _, g := range smallGraphs() {
		for _, p := range rightParts(g) {
			for v := -1; v <= g.N; v++ {
				var want []int
				for d := range 2 * len(g.E) {
					from, _, _ := Ends(g, d)
					if slices.Contains(p.E, d/2) && from == v {
						want = append(want, d)
					}
				}
				if l := Darts(g, p, v); !slices.Equal(l, want) {
					t.Fatalf("%v: Darts of %v at %d: %v", g, p, v, l)
				}
			}
		}
	}
}

// Promise 4.2: Has.

func TestHas(t *testing.T) {
	for _, l := range risingOf(least, least+1, -1, 0, 1, 5, greatest-1, greatest) {
		for _, x := range []int{least, least + 1, least + 2, -2, -1, 0, 1, 2, 5, 6, greatest - 2, greatest - 1, greatest} {
			if Has(l, x) != slices.Contains(l, x) {
				t.Errorf("Has(%v, %d) = %v", l, x, Has(l, x))
			}
		}
	}
	if Has(nil, 0) || Has([]int{}, 0) {
		t.Error("a list without numbers has 0")
	}
}

func TestHasOfLongLists(t *testing.T) {
	var l []int
	for x := range 1 << 12 {
		l = append(l, 2*x)
	}
	for x := -1; x <= 1<<13; x++ {
		if Has(l, x) != (0 <= x && x < 1<<13 && x%2 == 0) {
			t.Errorf("Has(even numbers, %d) = %v", x, Has(l, x))
		}
	}
}

// Promise 4.2: And, Or, Same, Within.

// filter answers the numbers that stand in a, in b, or in both, as a function says.
func filter(a, b []int, keep func(inA, inB bool) bool) []int {
	all := slices.Concat(a, b)
	slices.Sort(all)
	return slices.DeleteFunc(slices.Compact(all), func(x int) bool {
		return !keep(slices.Contains(a, x), slices.Contains(b, x))
	})
}

func checkTwo(t *testing.T, a, b api.Part) {
	t.Helper()
	both := func(inA, inB bool) bool { return inA && inB }
	one := func(inA, inB bool) bool { return inA || inB }
	alone := func(inA, inB bool) bool { return inA && !inB }
	if p := And(a, b); !alike(p, api.Part{V: filter(a.V, b.V, both), E: filter(a.E, b.E, both)}) {
		t.Errorf("And(%v, %v) = %v", a, b, p)
	}
	if p := Or(a, b); !alike(p, api.Part{V: filter(a.V, b.V, one), E: filter(a.E, b.E, one)}) {
		t.Errorf("Or(%v, %v) = %v", a, b, p)
	}
	if want := len(filter(a.V, b.V, alone))+len(filter(a.E, b.E, alone)) == 0; Within(a, b) != want {
		t.Errorf("Within(%v, %v) = %v", a, b, !want)
	}
	if Same(a, b) != alike(a, b) {
		t.Errorf("Same(%v, %v) = %v", a, b, Same(a, b))
	}
}

func TestTwoParts(t *testing.T) {
	lists := append(risingOf(0, 1, 2), []int{})
	for _, a := range lists {
		for _, b := range lists {
			for _, c := range lists {
				for _, d := range lists {
					checkTwo(t, api.Part{V: a, E: b}, api.Part{V: c, E: d})
				}
			}
		}
	}
}

func TestTwoListsOfOddNumbers(t *testing.T) {
	// Of lists that rise, what they have isn't asked for: here no graph has it.
	lists := risingOf(least, -1, 0, 3, greatest-1, greatest)
	for _, a := range lists {
		for _, b := range lists {
			checkTwo(t, api.Part{V: a}, api.Part{V: b})
			checkTwo(t, api.Part{E: a, V: []int{7}}, api.Part{E: b, V: []int{7}})
			checkTwo(t, api.Part{V: a, E: b}, api.Part{V: b, E: a})
		}
	}
}

func TestTwoPartsByHand(t *testing.T) {
	a, b := api.Part{V: []int{0, 1, 2}, E: []int{0, 3}}, api.Part{V: []int{0, 1, 2}, E: []int{2, 3}}
	if p := And(a, b); !alike(p, api.Part{V: []int{0, 1, 2}, E: []int{3}}) {
		t.Errorf("And = %v", p)
	}
	if p := Or(a, b); !alike(p, api.Part{V: []int{0, 1, 2}, E: []int{0, 2, 3}}) {
		t.Errorf("Or = %v", p)
	}
	for _, c := range []struct {
		a, b         api.Part
		same, within bool
	}{
		{api.Part{}, api.Part{}, true, true},
		{api.Part{}, api.Part{V: []int{}, E: []int{}}, true, true},
		{api.Part{}, a, false, true},
		{a, api.Part{}, false, false},
		{a, a, true, true},
		{a, b, false, false},
		{api.Part{V: a.V}, a, false, true},
		{a, api.Part{V: a.V}, false, false},
		{api.Part{V: []int{0, 2}, E: a.E}, a, false, true},
		{a, api.Part{V: []int{0, 2}, E: a.E}, false, false},
		// A part's vertices are no edges.
		{api.Part{V: []int{1}}, api.Part{E: []int{1}}, false, false},
	} {
		if Same(c.a, c.b) != c.same || Within(c.a, c.b) != c.within {
			t.Errorf("%v and %v: Same = %v, Within = %v", c.a, c.b, Same(c.a, c.b), Within(c.a, c.b))
		}
	}
}

// Promise 4.2: Drop.

func TestDrop(t *testing.T) {
	for _, l := range risingOf(least, -1, 0, 1, 5, greatest) {
		for _, e := range []int{least, -1, 0, 1, 2, 5, 6, greatest} {
			var want []int
			for _, x := range l {
				if x != e {
					want = append(want, x)
				}
			}
			for _, v := range [][]int{nil, {}, {0, 1, 5}} {
				if p := Drop(api.Part{V: v, E: l}, e); !alike(p, api.Part{V: v, E: want}) {
					t.Errorf("Drop of %d from %v: %v", e, l, p)
				}
			}
		}
	}
}

// Promise 4.3: Span.

func TestSpan(t *testing.T) {
	g := api.Graph{N: 6, E: edges(0, 1, 1, 1, 4, 2, 1, 0, 5, 4)}
	for _, c := range []struct {
		edges, vertices []int
		want            api.Errno
	}{
		{nil, nil, api.OK},
		{[]int{}, nil, api.OK},
		{[]int{1}, []int{1}, api.OK},
		{[]int{0}, []int{0, 1}, api.OK},
		{[]int{2}, []int{2, 4}, api.OK},
		{[]int{0, 1, 3}, []int{0, 1}, api.OK},
		{[]int{2, 4}, []int{2, 4, 5}, api.OK},
		{[]int{2, 3}, []int{0, 1, 2, 4}, api.OK},
		{[]int{0, 1, 2, 3, 4}, []int{0, 1, 2, 4, 5}, api.OK},
		{[]int{1, 0}, nil, api.ErrPart},
		{[]int{0, 0}, nil, api.ErrPart},
		{[]int{0, 2, 1}, nil, api.ErrPart},
		{[]int{4, 4}, nil, api.ErrPart},
		{[]int{-1}, nil, api.ErrPart},
		{[]int{-1, 0}, nil, api.ErrPart},
		{[]int{5}, nil, api.ErrPart},
		{[]int{0, 1, 2, 3, 4, 5}, nil, api.ErrPart},
		{[]int{least}, nil, api.ErrPart},
		{[]int{0, greatest}, nil, api.ErrPart},
		{make([]int, 1<<18), nil, api.ErrPart},
	} {
		p, e := Span(g, c.edges)
		if e != c.want || !slices.Equal(p.V, c.vertices) || e == api.OK && !slices.Equal(p.E, c.edges) || e != api.OK && !isEmpty(p) {
			t.Errorf("Span of %v: %v, %d", c.edges[:min(9, len(c.edges))], p, e)
		}
	}
}

func TestSpanOfWrongGraphs(t *testing.T) {
	for i, c := range wrongGraphs() {
		for _, l := range [][]int{nil, {}, {0}, {0, 1}, {1, 0}, {-1}, {greatest}} {
			if p, e := Span(c.g, l); e != c.want || !isEmpty(p) {
				t.Errorf("%d: Span of %v: %v, %d, not %d", i, l, p, e, c.want)
			}
		}
	}
	for _, g := range []api.Graph{{}, {N: 3}} {
		if p, e := Span(g, nil); e != api.OK || !isEmpty(p) {
			t.Errorf("Span of no edges: %v, %d", p, e)
		}
		if p, e := Span(g, []int{0}); e != api.ErrPart || !isEmpty(p) {
			t.Errorf("Span of an edge that there isn't: %v, %d", p, e)
		}
	}
}

func TestSpanOfSmallGraphs(t *testing.T) {
	for _, g := range smallGraphs() {
		for _, l := range listsOf(3, -1, 0, 1, 2) {
			var ends []int
			want := api.ErrPart
			if isRightPart(g, api.Part{V: upTo(g.N), E: l}) {
				want = api.OK
				for _, e := range l {
					ends = append(ends, g.E[e].A, g.E[e].B)
				}
			}
			slices.Sort(ends)
			p, e := Span(g, l)
			if e != want || !slices.Equal(p.V, slices.Compact(ends)) || e == api.OK && !slices.Equal(p.E, l) || e != api.OK && !isEmpty(p) {
				t.Fatalf("%v: Span of %v: %v, %d", g, l, p, e)
			}
			if e == api.OK && RightPart(g, p) != api.OK {
				t.Fatalf("%v: Span of %v is no right part: %v", g, l, p)
			}
		}
	}
}

// Promise 4.4: darts and their twins.

func TestTwins(t *testing.T) {
	for _, g := range smallGraphs() {
		for d := range 2 * len(g.E) {
			from, to, ok := Ends(g, d)
			back, forth, twin := Ends(g, d^1)
			if !ok || !twin || from != forth || to != back {
				t.Errorf("%v: the dart %d goes from %d to %d, its twin from %d to %d", g, d, from, to, back, forth)
			}
		}
	}
}

func TestEachDartLeavesOnce(t *testing.T) {
	for _, g := range smallGraphs() {
		for _, p := range rightParts(g) {
			var all []int
			for _, v := range p.V {
				all = append(all, Darts(g, p, v)...)
			}
			slices.Sort(all)
			var want []int
			for _, e := range p.E {
				want = append(want, 2*e, 2*e+1)
			}
			if !slices.Equal(all, want) {
				t.Errorf("%v: the darts of %v: %v", g, p, all)
			}
		}
	}
}

// Promise 4.4: of right parts And, Or and Drop make right parts.

func TestRightPartsOfRightParts(t *testing.T) {
	for _, g := range smallGraphs() {
		parts := rightParts(g)
		for _, a := range parts {
			for e := -1; e <= len(g.E); e++ {
				if p := Drop(a, e); RightPart(g, p) != api.OK || !Within(p, a) {
					t.Fatalf("%v: Drop(%v, %d) = %v", g, a, e, p)
				}
			}
			for _, b := range parts {
				and, or := And(a, b), Or(a, b)
				if RightPart(g, and) != api.OK || RightPart(g, or) != api.OK {
					t.Fatalf("%v: And(%v, %v) = %v, Or = %v", g, a, b, and, or)
				}
				if !Within(and, a) || !Within(and, b) || !Within(a, or) || !Within(b, or) {
					t.Fatalf("%v: And(%v, %v) = %v, Or = %v", g, a, b, and, or)
				}
			}
		}
	}
}

// All promises: whatever is handed in, no call panics.

func TestNothingPanics(t *testing.T) {
	graphs := []api.Graph{{}, {N: 3, E: edges(0, 1, 1, 2)}}
	for _, c := range wrongGraphs() {
		graphs = append(graphs, c.g)
	}
	lists := [][]int{nil, {}, {0}, {1, 0}, {0, 0}, {2, 2, 1, 1}, {greatest, least}, {least, greatest}, {-1, 0, 5000}, slices.Repeat([]int{3, -3}, 2000)}
	for _, a := range lists {
		for _, b := range lists {
			p, q := api.Part{V: a, E: b}, api.Part{V: b, E: a}
			for _, g := range graphs {
				RightPart(g, p)
				Darts(g, p, 0)
				Span(g, a)
			}
			for _, x := range []int{0, -1, least, greatest} {
				Has(a, x)
				Drop(p, x)
			}
			And(p, q)
			Or(p, q)
			Same(p, q)
			Within(p, q)
		}
	}
}

// All promises: nothing that is handed in changes, nothing that is handed out is shared.

const mark = 77 // what stands in spare room

// whole answers a list and the spare room behind it.
func whole[T any](l []T) []T {
	return l[:cap(l)]
}

func fill[T any](l []T, x T) {
	for i := range whole(l) {
		whole(l)[i] = x
	}
}

// given is all that is handed in: its lists are stretches of two rooms, each with spare room behind it.
type given struct {
	ends []api.Edge
	room []int
	g    api.Graph
	p, q api.Part
}

func newGiven(g api.Graph, p, q api.Part) *given {
	x := &given{}
	x.ends = append(slices.Clone(g.E), api.Edge{A: mark, B: mark}, api.Edge{A: mark, B: mark})
	x.g = api.Graph{N: g.N, E: x.ends[:len(g.E)]}
	lists := [][]int{p.V, p.E, q.V, q.E}
	var starts []int
	for _, l := range lists {
		starts = append(starts, len(x.room))
		x.room = append(append(x.room, l...), mark, mark, mark)
	}
	at := func(i int) []int {
		return x.room[starts[i] : starts[i]+len(lists[i])]
	}
	x.p, x.q = api.Part{V: at(0), E: at(1)}, api.Part{V: at(2), E: at(3)}
	return x
}

// calls answers each call with the lists of its answer; those that answer none are there for what they are handed.
func calls() map[string]func(x *given) [][]int {
	part := func(p api.Part) [][]int { return [][]int{p.V, p.E} }
	return map[string]func(x *given) [][]int{
		"Whole": func(x *given) [][]int { return part(Whole(x.g)) },
		"Darts": func(x *given) [][]int { return [][]int{Darts(x.g, x.p, 0), Darts(x.g, x.p, 1)} },
		"And":   func(x *given) [][]int { return part(And(x.p, x.q)) },
		"Or":    func(x *given) [][]int { return part(Or(x.p, x.q)) },
		"with itself": func(x *given) [][]int {
			return append(part(And(x.p, x.p)), part(Or(x.p, x.p))...)
		},
		"Span": func(x *given) [][]int {
			p, _ := Span(x.g, x.p.E)
			return part(p)
		},
		"Drop": func(x *given) [][]int {
			return slices.Concat(part(Drop(x.p, 0)), part(Drop(x.p, 1)), part(Drop(x.p, -1)))
		},
		"without a list": func(x *given) [][]int {
			Right(x.g)
			RightPart(x.g, x.p)
			Ends(x.g, 1)
			Has(x.p.V, 1)
			Same(x.p, x.q)
			Within(x.p, x.q)
			return nil
		},
	}
}

func TestNothingIsChangedOrShared(t *testing.T) {
	for _, g := range smallGraphs() {
		parts := rightParts(g)
		for i, p := range parts {
			q := parts[len(parts)-1-i]
			for name, call := range calls() {
				checkMemory(t, name, call, newGiven(g, p, q))
				checkMemory(t, name, call, newGiven(g, p, p))
			}
		}
	}
}

func checkMemory(t *testing.T, name string, call func(x *given) [][]int, x *given) {
	t.Helper()
	oldEnds, oldRoom := slices.Clone(whole(x.ends)), slices.Clone(whole(x.room))
	answer, other := call(x), call(x)
	var want [][]int
	for _, l := range answer {
		want = append(want, slices.Clone(l))
	}
	for _, l := range other {
		fill(l, -1)
	}
	if !slices.Equal(whole(x.ends), oldEnds) || !slices.Equal(whole(x.room), oldRoom) {
		t.Fatalf("%s of %v: what is handed in is changed, or shared", name, oldRoom)
	}
	fill(x.ends, api.Edge{A: -2, B: -2})
	fill(x.room, -2)
	for i, l := range answer {
		if !slices.Equal(l, want[i]) {
			t.Fatalf("%s of %v: list %d is shared: %v", name, oldRoom, i, l)
		}
		// Each list is filled with a number of its own: the lists behind it show it, if they share its memory.
		fill(l, -3-i)
	}
	for i, l := range answer {
		for _, y := range whole(l) {
			if y != -3-i {
				t.Fatalf("%s of %v: two lists of one answer share memory", name, oldRoom)
			}
		}
	}
}
