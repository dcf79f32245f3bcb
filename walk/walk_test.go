package walk

import (
	"maps"
	"math"
	"slices"
	"testing"

	"tracery/api"
	"tracery/graph"
	"tracery/sample"
)

const (
	least    = math.MinInt
	greatest = math.MaxInt
)

// The plain second way: all lists of darts are gone through.

// ends answers the vertex that a dart leaves, and the one that it comes to.
func ends(g api.Graph, d int) (int, int) {
	e := g.E[d/2]
	if d%2 == 0 {
		return e.A, e.B
	}
	return e.B, e.A
}

// isWay tells whether darts are a way.
func isWay(g api.Graph, darts []int) bool {
	for i := range darts[:max(0, len(darts)-1)] {
		_, to := ends(g, darts[i])
		if from, _ := ends(g, darts[i+1]); from != to {
			return false
		}
	}
	return true
}

// waysOf answers all ways through a part that have so many darts at most: those of fewer darts first, and of as many those whose darts are the least.
func waysOf(g api.Graph, p api.Part, most int) [][]int {
	var darts []int
	for _, e := range p.E {
		darts = append(darts, 2*e, 2*e+1)
	}
	return slices.DeleteFunc(sample.Lists(most, darts...), func(l []int) bool { return !isWay(g, l) })
}

// goes tells whether a way goes from a to b; without a dart it does, if they are one.
func goes(g api.Graph, way []int, a, b int) bool {
	if len(way) == 0 {
		return a == b
	}
	from, _ := ends(g, way[0])
	_, to := ends(g, way[len(way)-1])
	return from == a && to == b
}

// firstWay answers the first of ways that goes from a to b, both vertices of a part.
func firstWay(g api.Graph, p api.Part, ways [][]int, a, b int) ([]int, bool) {
	if !slices.Contains(p.V, a) || !slices.Contains(p.V, b) {
		return nil, false
	}
	for _, way := range ways {
		if goes(g, way, a, b) {
			return way, true
		}
	}
	return nil, false
}

// onwards answers what can be come to by those of ways that begin with d and don't leave v again.
func onwards(g api.Graph, p api.Part, ways [][]int, v, d int) api.Part {
	has := map[int]bool{}
	for _, way := range ways {
		if len(way) == 0 || way[0] != d {
			continue
		}
		if !slices.ContainsFunc(way[1:], func(x int) bool { from, _ := ends(g, x); return from == v }) {
			_, to := ends(g, way[len(way)-1])
			has[to] = true
		}
	}
	delete(has, v)
	var q api.Part
	for _, x := range p.V {
		if x == v || has[x] {
			q.V = append(q.V, x)
		}
	}
	for _, e := range p.E {
		if e == d/2 || has[g.E[e].A] || has[g.E[e].B] {
			q.E = append(q.E, e)
		}
	}
	return q
}

// checkPart holds all that is answered of a right part against the second way.
func checkPart(t *testing.T, g api.Graph, p api.Part) {
	t.Helper()
	ways := waysOf(g, p, max(0, len(p.V)-1))
	pieces, e := Pieces(g, p)
	var want []api.Part
	done := map[int]bool{}
	for a := -1; a <= g.N; a++ {
		far := map[int]int{}
		for b := -1; b <= g.N; b++ {
			way, ok := firstWay(g, p, ways, a, b)
			if got, is := Path(g, p, a, b); is != ok || !slices.Equal(got, way) {
				t.Fatalf("%v: Path through %v from %d to %d: %v, %v, not %v", g, p, a, b, got, is, way)
			}
			if ok {
				far[b] = len(way)
			}
		}
		if got := Far(g, p, a); !maps.Equal(got, far) {
			t.Fatalf("%v: Far of %v from %d: %v, not %v", g, p, a, got, far)
		}
		if len(far) > 0 && !done[a] {
			want = append(want, pieceOf(g, p, far))
			for v := range far {
				done[v] = true
			}
		}
		checkBeyond(t, g, p, ways, a)
	}
	if e != api.OK || !slices.EqualFunc(pieces, want, sample.Alike) {
		t.Fatalf("%v: Pieces of %v: %v, %d, not %v", g, p, pieces, e, want)
	}
	if Joined(g, p) != (len(want) <= 1) {
		t.Fatalf("%v: Joined of %v: %v", g, p, Joined(g, p))
	}
}

// pieceOf answers the piece of a part that has vertices.
func pieceOf(g api.Graph, p api.Part, vertices map[int]int) api.Part {
	q := api.Part{V: slices.Sorted(maps.Keys(vertices))}
	for _, e := range p.E {
		_, hasA := vertices[g.E[e].A]
		_, hasB := vertices[g.E[e].B]
		if hasA && hasB {
			q.E = append(q.E, e)
		}
	}
	return q
}

func checkBeyond(t *testing.T, g api.Graph, p api.Part, ways [][]int, v int) {
	t.Helper()
	for d := -2; d <= 2*len(g.E); d++ {
		var want api.Part
		leaves := d >= 0 && d < 2*len(g.E) && slices.Contains(p.E, d/2)
		if leaves {
			from, _ := ends(g, d)
			leaves = from == v
		}
		if leaves {
			want = onwards(g, p, ways, v, d)
		}
		if q, ok := Beyond(g, p, v, d); ok != leaves || !sample.Alike(q, want) {
			t.Fatalf("%v: Beyond of %v by %d from %d: %v, %v, not %v", g, p, d, v, q, ok, want)
		}
	}
}

func TestSmallGraphs(t *testing.T) {
	for _, g := range sample.Graphs(3, 3) {
		for _, p := range sample.Parts(g) {
			checkPart(t, g, p)
		}
	}
}

func TestGraphsOfFour(t *testing.T) {
	// Of all graphs of four edges those that have each edge from a vertex to another one, in either direction by turns: rings of four, triangles with a tail, several edges between the same ends.
	pairs := [][2]int{{0, 1}, {2, 0}, {0, 3}, {2, 1}, {1, 3}, {3, 2}}
	for _, l := range sample.Lists(4, sample.UpTo(len(pairs))...) {
		g := api.Graph{N: 4}
		for _, i := range l {
			g.E = append(g.E, api.Edge{A: pairs[i][0], B: pairs[i][1]})
		}
		checkPart(t, g, graph.Whole(g))
	}
}

// A graph with what the chapter names: two pieces with edges, loops, several edges between the same ends, a vertex by itself.
//
//	0 -0- 1 -1- 2 -2- 0, 2 -3- 3, 3 -4- 3, 1 -5- 0, 4 -6- 4, 5, 7 -7- 6
func mixed() api.Graph {
	return api.Graph{N: 8, E: sample.Edges(0, 1, 1, 2, 2, 0, 2, 3, 3, 3, 1, 0, 4, 4, 7, 6)}
}

// wrongParts answers parts of mixed that aren't right.
func wrongParts() []api.Part {
	all := sample.UpTo(8)
	return []api.Part{
		{V: []int{1, 0}}, {V: []int{0, 0}}, {V: []int{0, 1, 1}}, {V: []int{1, 0}, E: []int{0}},
		{V: all, E: []int{1, 0}}, {V: all, E: []int{0, 0}}, {V: all, E: []int{0, 2, 1}},
		{V: []int{-1, 0}}, {V: []int{0, 8}}, {V: []int{least, 0}}, {V: []int{0, greatest}},
		{V: all, E: []int{-1, 0}}, {V: all, E: []int{0, 8}}, {V: all, E: []int{least, 0}}, {V: all, E: []int{0, greatest}},
		{E: []int{0}}, {V: []int{0}, E: []int{0}}, {V: []int{1}, E: []int{0}}, {V: []int{0, 1, 2}, E: []int{0, 3}}, {V: []int{0, 1, 3}, E: []int{0, 6}},
		{V: make([]int, 1<<18)}, {E: make([]int, 1<<18)},
	}
}

// Promise 5.1: Pieces, Joined.

func TestPieces(t *testing.T) {
	g := mixed()
	for _, c := range []struct {
		p    api.Part
		want []api.Part
	}{
		{api.Part{}, nil},
		{api.Part{V: []int{}, E: []int{}}, nil},
		{graph.Whole(g), []api.Part{{V: []int{0, 1, 2, 3}, E: []int{0, 1, 2, 3, 4, 5}}, {V: []int{4}, E: []int{6}}, {V: []int{5}}, {V: []int{6, 7}, E: []int{7}}}},
		{api.Part{V: []int{5}}, []api.Part{{V: []int{5}}}},
		{api.Part{V: []int{3}, E: []int{4}}, []api.Part{{V: []int{3}, E: []int{4}}}},
		{api.Part{V: []int{0, 1}, E: []int{0, 5}}, []api.Part{{V: []int{0, 1}, E: []int{0, 5}}}},
		{api.Part{V: []int{0, 1}, E: []int{5}}, []api.Part{{V: []int{0, 1}, E: []int{5}}}},
		// Edges of the graph that the part leaves out.
		{api.Part{V: []int{0, 1, 2}}, []api.Part{{V: []int{0}}, {V: []int{1}}, {V: []int{2}}}},
		{api.Part{V: []int{0, 1, 2, 3}, E: []int{2, 4}}, []api.Part{{V: []int{0, 2}, E: []int{2}}, {V: []int{1}}, {V: []int{3}, E: []int{4}}}},
		{api.Part{V: []int{4, 5, 6, 7}, E: []int{7}}, []api.Part{{V: []int{4}}, {V: []int{5}}, {V: []int{6, 7}, E: []int{7}}}},
	} {
		l, e := Pieces(g, c.p)
		if e != api.OK || !slices.EqualFunc(l, c.want, sample.Alike) {
			t.Errorf("Pieces of %v: %v, %d", c.p, l, e)
		}
		if Joined(g, c.p) != (len(c.want) <= 1) {
			t.Errorf("Joined of %v: %v", c.p, Joined(g, c.p))
		}
	}
}

func TestPiecesByTheirLeastVertices(t *testing.T) {
	// The edges that come first are of the pieces that come last, and lead to their least vertices last.
	g := api.Graph{N: 7, E: sample.Edges(6, 5, 6, 2, 4, 3, 4, 1, 2, 6)}
	want := []api.Part{{V: []int{0}}, {V: []int{1, 3, 4}, E: []int{2, 3}}, {V: []int{2, 5, 6}, E: []int{0, 1, 4}}}
	if l, e := Pieces(g, graph.Whole(g)); e != api.OK || !slices.EqualFunc(l, want, sample.Alike) {
		t.Errorf("Pieces: %v, %d", l, e)
	}
}

func TestPiecesOfWrongParts(t *testing.T) {
	g := mixed()
	for i, p := range wrongParts() {
		if l, e := Pieces(g, p); e != api.ErrPart || len(l) > 0 || Joined(g, p) {
			t.Errorf("%d: Pieces: %v, %d; Joined: %v", i, l, e, Joined(g, p))
		}
	}
	for i, c := range sample.WrongGraphs() {
		// The graph's error comes first, also where the part is none.
		for _, p := range []api.Part{{}, {V: []int{0}}, {V: []int{0}, E: []int{0}}, {V: []int{1, 0}}, {E: []int{-1}}} {
			if l, e := Pieces(c.G, p); e != c.Want || len(l) > 0 || Joined(c.G, p) {
				t.Errorf("%d: Pieces of %v: %v, %d, not %d; Joined: %v", i, p, l, e, c.Want, Joined(c.G, p))
			}
		}
	}
}

// Promise 5.2: Path, Far.

func TestPath(t *testing.T) {
	g, line := mixed(), api.Graph{N: 3, E: sample.Edges(0, 1, 1, 2)}
	all := graph.Whole(g)
	for _, c := range []struct {
		g    api.Graph
		p    api.Part
		a, b int
		want []int
		ok   bool
	}{
		{line, graph.Whole(line), 2, 0, []int{3, 1}, true},
		{line, graph.Whole(line), 0, 2, []int{0, 2}, true},
		{line, graph.Whole(line), 1, 1, nil, true},
		{g, all, 0, 1, []int{0}, true},
		{g, all, 1, 0, []int{1}, true},
		{g, all, 0, 3, []int{5, 6}, true},
		{g, all, 3, 1, []int{7, 3}, true},
		{g, all, 6, 7, []int{15}, true},
		// From a vertex to itself: nothing, also where it has a loop, or no edge.
		{g, all, 0, 0, nil, true}, {g, all, 3, 3, nil, true}, {g, all, 4, 4, nil, true}, {g, all, 5, 5, nil, true},
		{g, api.Part{V: []int{2}}, 2, 2, nil, true},
		// What doesn't hang together.
		{g, all, 0, 4, nil, false}, {g, all, 4, 5, nil, false}, {g, all, 7, 3, nil, false},
		// Edges that the part leaves out.
		{g, api.Part{V: []int{0, 1}, E: []int{5}}, 0, 1, []int{11}, true},
		{g, api.Part{V: []int{0, 1, 2}, E: []int{1, 2}}, 0, 1, []int{5, 3}, true},
		{g, api.Part{V: []int{0, 1, 2}, E: []int{1}}, 0, 1, nil, false},
		{g, api.Part{V: []int{0, 1}}, 0, 1, nil, false},
		// What the part hasn't.
		{g, api.Part{V: []int{0, 1}, E: []int{0}}, 0, 2, nil, false}, {g, api.Part{V: []int{0, 1}, E: []int{0}}, 2, 0, nil, false},
		{g, api.Part{V: []int{0, 1}, E: []int{0}}, 2, 3, nil, false}, {g, api.Part{V: []int{0, 1}, E: []int{0}}, 2, 2, nil, false},
		{g, all, 8, 8, nil, false}, {g, all, -1, -1, nil, false}, {g, all, 0, 8, nil, false}, {g, all, -1, 0, nil, false},
		{g, all, greatest, greatest, nil, false}, {g, all, least, least, nil, false}, {g, all, greatest, least, nil, false},
		{g, api.Part{}, 0, 0, nil, false}, {api.Graph{}, api.Part{}, 0, 0, nil, false},
	} {
		if way, ok := Path(c.g, c.p, c.a, c.b); ok != c.ok || !slices.Equal(way, c.want) {
			t.Errorf("Path through %v from %d to %d: %v, %v", c.p, c.a, c.b, way, ok)
		}
	}
}

func TestLeastOfShortestWays(t *testing.T) {
	for _, c := range []struct {
		g    api.Graph
		a, b int
		want []int
	}{
		// Several edges between the same ends, on in both directions.
		{api.Graph{N: 2, E: sample.Edges(1, 0, 0, 1, 0, 1)}, 0, 1, []int{1}},
		{api.Graph{N: 2, E: sample.Edges(1, 0, 0, 1, 0, 1)}, 1, 0, []int{0}},
		{api.Graph{N: 3, E: sample.Edges(1, 2, 0, 1, 1, 2, 0, 1)}, 0, 2, []int{2, 0}},
		// The first dart says it, though the last one of another way is less.
		{api.Graph{N: 4, E: sample.Edges(1, 3, 0, 2, 0, 1, 2, 3)}, 0, 3, []int{2, 6}},
		{api.Graph{N: 4, E: sample.Edges(1, 3, 0, 2, 0, 1, 2, 3)}, 3, 0, []int{1, 5}},
		// The least first dart doesn't lead on.
		{api.Graph{N: 5, E: sample.Edges(0, 4, 0, 2, 2, 3, 0, 1, 1, 3)}, 0, 3, []int{2, 4}},
		// The least first dart leads there by more darts.
		{api.Graph{N: 4, E: sample.Edges(0, 1, 1, 2, 2, 3, 3, 0)}, 0, 3, []int{7}},
		// Three darts, and a choice at the second one alone.
		{api.Graph{N: 5, E: sample.Edges(3, 4, 2, 4, 1, 3, 1, 2, 0, 1)}, 0, 4, []int{8, 4, 0}},
	} {
		if way, ok := Path(c.g, graph.Whole(c.g), c.a, c.b); !ok || !slices.Equal(way, c.want) {
			t.Errorf("%v: Path from %d to %d: %v, %v, not %v", c.g, c.a, c.b, way, ok, c.want)
		}
	}
}

func TestFar(t *testing.T) {
	g := mixed()
	all := graph.Whole(g)
	for _, c := range []struct {
		p    api.Part
		a    int
		want map[int]int
	}{
		{all, 3, map[int]int{3: 0, 2: 1, 0: 2, 1: 2}},
		{all, 0, map[int]int{0: 0, 1: 1, 2: 1, 3: 2}},
		{all, 4, map[int]int{4: 0}},
		{all, 5, map[int]int{5: 0}},
		{all, 6, map[int]int{6: 0, 7: 1}},
		{api.Part{V: []int{0, 1, 2}, E: []int{1, 2}}, 0, map[int]int{0: 0, 2: 1, 1: 2}},
		{api.Part{V: []int{0, 1, 2}, E: []int{0}}, 0, map[int]int{0: 0, 1: 1}},
		{api.Part{V: []int{0, 1, 2}}, 0, map[int]int{0: 0}},
		{api.Part{V: []int{0, 1, 2}}, 3, nil},
		{all, 8, nil}, {all, -1, nil}, {all, least, nil}, {all, greatest, nil},
		{api.Part{}, 0, nil}, {api.Part{V: []int{}, E: []int{}}, 0, nil},
	} {
		if far := Far(g, c.p, c.a); !maps.Equal(far, c.want) {
			t.Errorf("Far of %v from %d: %v", c.p, c.a, far)
		}
	}
}

// Promise 5.3: Beyond.

func TestBeyond(t *testing.T) {
	g, line := mixed(), api.Graph{N: 3, E: sample.Edges(0, 1, 1, 2)}
	all := graph.Whole(g)
	// Two triangles at 0, a loop there, one at 1, and two edges from 0 to 5.
	hub := api.Graph{N: 6, E: sample.Edges(0, 1, 1, 2, 2, 0, 0, 0, 3, 0, 3, 4, 4, 0, 1, 1, 0, 5, 5, 0)}
	for _, c := range []struct {
		g    api.Graph
		p    api.Part
		v, d int
		want api.Part
	}{
		{line, graph.Whole(line), 1, 2, api.Part{V: []int{1, 2}, E: []int{1}}},
		{line, graph.Whole(line), 1, 1, api.Part{V: []int{0, 1}, E: []int{0}}},
		{line, graph.Whole(line), 0, 0, api.Part{V: []int{0, 1, 2}, E: []int{0, 1}}},
		{line, graph.Whole(line), 2, 3, api.Part{V: []int{0, 1, 2}, E: []int{0, 1}}},
		// What comes back to v doesn't leave it again.
		{hub, graph.Whole(hub), 0, 0, api.Part{V: []int{0, 1, 2}, E: []int{0, 1, 2, 7}}},
		{hub, graph.Whole(hub), 0, 5, api.Part{V: []int{0, 1, 2}, E: []int{0, 1, 2, 7}}},
		{hub, graph.Whole(hub), 0, 9, api.Part{V: []int{0, 3, 4}, E: []int{4, 5, 6}}},
		{hub, graph.Whole(hub), 0, 13, api.Part{V: []int{0, 3, 4}, E: []int{4, 5, 6}}},
		{hub, graph.Whole(hub), 0, 16, api.Part{V: []int{0, 5}, E: []int{8, 9}}},
		{hub, graph.Whole(hub), 0, 19, api.Part{V: []int{0, 5}, E: []int{8, 9}}},
		{hub, graph.Whole(hub), 1, 2, api.Part{V: []int{0, 1, 2, 3, 4, 5}, E: []int{0, 1, 2, 3, 4, 5, 6, 8, 9}}},
		// A loop at v: v and it alone, by both of its darts.
		{hub, graph.Whole(hub), 0, 6, api.Part{V: []int{0}, E: []int{3}}},
		{hub, graph.Whole(hub), 0, 7, api.Part{V: []int{0}, E: []int{3}}},
		{hub, graph.Whole(hub), 1, 14, api.Part{V: []int{1}, E: []int{7}}},
		{g, all, 4, 13, api.Part{V: []int{4}, E: []int{6}}},
		{g, all, 2, 6, api.Part{V: []int{2, 3}, E: []int{3, 4}}},
		{g, all, 3, 7, api.Part{V: []int{0, 1, 2, 3}, E: []int{0, 1, 2, 3, 5}}},
		// Edges that the part leaves out lead nowhere.
		{hub, api.Part{V: sample.UpTo(6), E: []int{0, 2, 3, 8}}, 0, 0, api.Part{V: []int{0, 1}, E: []int{0}}},
		{hub, api.Part{V: []int{0, 1, 5}, E: []int{0, 8}}, 0, 16, api.Part{V: []int{0, 5}, E: []int{8}}},
	} {
		if q, ok := Beyond(c.g, c.p, c.v, c.d); !ok || !sample.Alike(q, c.want) {
			t.Errorf("%v: Beyond of %v by %d from %d: %v, %v", c.g, c.p, c.d, c.v, q, ok)
		}
	}
}

func TestBeyondOfNothing(t *testing.T) {
	g := mixed()
	all := graph.Whole(g)
	for _, c := range []struct {
		p    api.Part
		v, d int
	}{
		// Darts that don't leave v.
		{all, 1, 0}, {all, 0, 1}, {all, 3, 6}, {all, 2, 7}, {all, 3, 12}, {all, 0, 2}, {all, 5, 0},
		// Darts that are none of the graph's.
		{all, 0, 16}, {all, 7, 16}, {all, 6, 17}, {all, 0, -1}, {all, 1, -1}, {all, 0, -2}, {all, 1, -2}, {all, 0, greatest}, {all, 0, least}, {all, 1, least + 1},
		// Vertices that are none of the graph's.
		{all, 8, 0}, {all, -1, 0}, {all, greatest, 0}, {all, least, 0}, {all, -1, -1}, {all, 8, 16},
		// What the part hasn't.
		{api.Part{V: []int{0, 1}, E: []int{5}}, 0, 0}, {api.Part{V: []int{0, 1}}, 0, 0}, {api.Part{V: []int{1}}, 0, 0}, {api.Part{}, 0, 0},
		{api.Part{V: []int{0, 1, 2, 3}, E: []int{0, 3}}, 1, 2}, {api.Part{V: []int{0, 1, 2, 3}, E: []int{0, 3}}, 0, 5}, {api.Part{V: []int{3}}, 3, 8},
	} {
		if q, ok := Beyond(g, c.p, c.v, c.d); ok || !sample.IsEmpty(q) {
			t.Errorf("Beyond of %v by %d from %d: %v, %v", c.p, c.d, c.v, q, ok)
		}
	}
}

// Promises 5.2 and 5.3: parts and graphs that aren't right have no ways.

func checkNoWays(t *testing.T, i int, g api.Graph, p api.Part) {
	t.Helper()
	for _, a := range []int{0, 1, 3, -1, least, greatest} {
		if far := Far(g, p, a); len(far) > 0 {
			t.Errorf("%d: Far from %d: %v", i, a, far)
		}
		for _, b := range []int{0, 1, 3, -1, least, greatest} {
			if way, ok := Path(g, p, a, b); ok || len(way) > 0 {
				t.Errorf("%d: Path from %d to %d: %v, %v", i, a, b, way, ok)
			}
			if q, ok := Beyond(g, p, a, b); ok || !sample.IsEmpty(q) {
				t.Errorf("%d: Beyond by %d from %d: %v, %v", i, b, a, q, ok)
			}
		}
	}
}

func TestNoWaysThroughWrongParts(t *testing.T) {
	for i, p := range wrongParts() {
		checkNoWays(t, i, mixed(), p)
	}
	for i, c := range sample.WrongGraphs() {
		for _, p := range []api.Part{{}, {V: []int{0}}, {V: []int{0}, E: []int{0}}, {V: []int{0, 1}, E: []int{0}}, {V: []int{1, 0}}, {E: []int{-1}}} {
			checkNoWays(t, i, c.G, p)
		}
	}
}

// Promise 5.4: each vertex and each edge of a part is in just one of its pieces.

func TestEachIsInOnePiece(t *testing.T) {
	graphs := append(sample.Graphs(3, 2), mixed(), sample.Ring(512), api.Graph{N: 1024}, api.Graph{N: 1, E: sample.Loops(1023)})
	for _, g := range graphs {
		p := graph.Whole(g)
		pieces, e := Pieces(g, p)
		var vertices, edges []int
		for _, q := range pieces {
			if graph.RightPart(g, q) != api.OK || !Joined(g, q) || len(q.V) == 0 {
				t.Fatalf("a piece of %d vertices and %d edges: %v", g.N, len(g.E), q)
			}
			vertices, edges = append(vertices, q.V...), append(edges, q.E...)
		}
		slices.Sort(vertices)
		slices.Sort(edges)
		if e != api.OK || !sample.Alike(api.Part{V: vertices, E: edges}, p) {
			t.Fatalf("Pieces of %d vertices and %d edges: %d of them, with %v and %v, %d", g.N, len(g.E), len(pieces), vertices, edges, e)
		}
	}
}

// Promise 5.4: a shortest way is a way, and none is shorter.

func TestLongWays(t *testing.T) {
	g := sample.Ring(512)
	p := graph.Whole(g)
	for _, a := range []int{0, 1, 255, 511} {
		far := Far(g, p, a)
		if len(far) != 512 {
			t.Fatalf("%d vertices hang together with %d", len(far), a)
		}
		for b := range 512 {
			want := min((b-a+512)%512, (a-b+512)%512)
			way, ok := Path(g, p, a, b)
			if !ok || len(way) != want || far[b] != want || !isWay(g, way) || !goes(g, way, a, b) {
				t.Fatalf("from %d to %d it is %d: %v", a, b, far[b], way)
			}
		}
	}
	// To the other end of a ring both ways are as short: the one that begins with the least dart is taken.
	if way, _ := Path(g, p, 0, 256); way[0] != 0 || way[255] != 510 {
		t.Errorf("half around: %v", way)
	}
	if way, _ := Path(g, p, 256, 0); way[0] != 511 || way[255] != 1 {
		t.Errorf("half back: %v", way)
	}
}

func TestWaysThroughAllPartsOfARing(t *testing.T) {
	g := sample.Ring(512)
	for e := range 512 {
		p := graph.Drop(graph.Whole(g), e)
		way, ok := Path(g, p, e, (e+1)%512)
		if !ok || len(way) != 511 || !isWay(g, way) || !goes(g, way, e, (e+1)%512) || slices.Contains(way, 2*e) || slices.Contains(way, 2*e+1) {
			t.Fatalf("around, but for the edge %d: %v, %v", e, way, ok)
		}
		if q, ok := Beyond(g, p, e, (2*e+1023)%1024); !ok || !sample.Alike(q, p) {
			t.Fatalf("beyond %d: %v, %v", e, q, ok)
		}
	}
}

// All promises: nothing that is handed in changes, nothing that is handed out is shared.

// calls answers the lists of each call's answers.
func calls(g api.Graph, p api.Part) [][]int {
	var lists [][]int
	pieces, _ := Pieces(g, p)
	for d := range 2 * len(g.E) {
		for v := range g.N {
			q, _ := Beyond(g, p, v, d)
			pieces = append(pieces, q)
		}
	}
	for _, q := range pieces {
		lists = append(lists, q.V, q.E)
	}
	for a := range g.N {
		for b := range g.N {
			way, _ := Path(g, p, a, b)
			lists = append(lists, way)
		}
		Far(g, p, a)
	}
	Joined(g, p)
	return lists
}

func TestNothingIsChangedOrShared(t *testing.T) {
	for _, g := range append(sample.Graphs(3, 2), mixed()) {
		for i, p := range sample.Parts(g) {
			if g.N > 3 && i%16 != 15 {
				continue // what many edges leave is seen at some of their parts as well
			}
			room := &sample.Room{}
			laidGraph, laidPart := room.Graph(g), room.Part(p)
			if err := room.Fault(func() [][]int { return calls(laidGraph, laidPart) }); err != nil {
				t.Fatalf("%v, %v: %v", g, p, err)
			}
		}
	}
}

func TestFarIsNewEachTime(t *testing.T) {
	g := mixed()
	p := graph.Whole(g)
	far, other := Far(g, p, 0), Far(g, p, 0)
	want := maps.Clone(far)
	clear(other)
	other[7] = 7
	p.V[0], p.E[0], g.E[0].B = 6, 6, 6
	if !maps.Equal(far, want) {
		t.Errorf("Far is %v, and was %v", far, want)
	}
}
