package face

import (
	"math"
	"slices"
	"testing"

	"tracery/api"
	"tracery/graph"
	"tracery/sample"
	"tracery/walk"
)

const (
	least    = math.MinInt
	greatest = math.MaxInt
)

// The plain second way: the lists themselves are gone through.

// dartsOf answers all darts of a part, rising.
func dartsOf(p api.Part) []int {
	var darts []int
	for _, e := range p.E {
		darts = append(darts, 2*e, 2*e+1)
	}
	return darts
}

// twin answers a dart's twin.
func twin(d int) int {
	return 2*(d/2) + 1 - d%2
}

// leaving answers the vertex that a dart leaves.
func leaving(g api.Graph, d int) int {
	return []int{g.E[d/2].A, g.E[d/2].B}[d%2]
}

// isAround tells whether darts come one behind the other around one face, all of them.
func isAround(turn [][]int, darts []int) bool {
	for i, d := range darts {
		if next := darts[(i+1)%len(darts)]; !sample.IsBehind(turn, twin(d), next) {
			return false
		}
	}
	return true
}

// checkWalks holds the walks against the lists.
func checkWalks(t *testing.T, g api.Graph, p api.Part, turn [][]int) []Walk {
	t.Helper()
	walks, e := Walks(g, p, turn)
	if e != api.OK {
		t.Fatalf("%v, %v: Walks of %v: %d", g, p, turn, e)
	}
	var keys, met []int
	for i, w := range walks {
		if i > 0 && walks[i-1].Key >= w.Key {
			t.Fatalf("%v, %v: %v: not rising: %v", g, p, turn, walks)
		}
		if len(w.Darts) == 0 {
			keys = append(keys, w.Key)
			continue
		}
		met = append(met, w.Darts...)
		if w.Key != w.Darts[0] || w.Key != slices.Min(w.Darts) || !isAround(turn, w.Darts) {
			t.Fatalf("%v, %v: %v: no walk: %v", g, p, turn, w)
		}
	}
	// Promise 7.3: each dart is in just one walk.
	if slices.Sort(met); !slices.Equal(met, dartsOf(p)) {
		t.Fatalf("%v, %v: %v: the darts of %v", g, p, turn, walks)
	}
	var want []int
	for v := g.N - 1; v >= 0; v-- {
		if slices.Contains(p.V, v) && len(turn[v]) == 0 {
			want = append(want, -1-v)
		}
	}
	if !slices.Equal(keys, want) {
		t.Fatalf("%v, %v: %v: the vertices without darts of %v", g, p, turn, walks)
	}
	return walks
}

// checkKeysAndCorners holds these against walks that are right.
func checkKeysAndCorners(t *testing.T, g api.Graph, p api.Part, turn [][]int, walks []Walk) {
	t.Helper()
	for d := -g.N - 3; d < 2*len(g.E)+3; d++ {
		want, is := 0, false
		for _, w := range walks {
			if slices.Contains(w.Darts, d) || len(w.Darts) == 0 && w.Key == d {
				want, is = w.Key, true
			}
		}
		if key, ok := Key(g, p, turn, d); key != want || ok != is {
			t.Fatalf("%v, %v: %v: Key of %d: %d, %v", g, p, turn, d, key, ok)
		}
	}
	for _, w := range walks {
		var want []int
		for _, d := range w.Darts {
			want = append(want, leaving(g, d))
		}
		if len(w.Darts) == 0 {
			want = []int{-1 - w.Key}
		}
		if corners := Corners(g, w); !slices.Equal(corners, want) {
			t.Fatalf("%v: Corners of %v: %v", g, w, corners)
		}
	}
}

// checkGenus holds the genus against walks that are right.
func checkGenus(t *testing.T, g api.Graph, p api.Part, turn [][]int, walks []Walk) []int {
	t.Helper()
	all, e := Genus(g, p, turn)
	pieces, _ := walk.Pieces(g, p)
	if e != api.OK || len(all) != len(pieces) {
		t.Fatalf("%v, %v: Genus of %v: %v, %d", g, p, turn, all, e)
	}
	sphere := true
	for i, piece := range pieces {
		faces := 0
		for _, w := range walks {
			if len(w.Darts) == 0 && slices.Contains(piece.V, -1-w.Key) || len(w.Darts) > 0 && slices.Contains(piece.E, w.Key/2) {
				faces++
			}
		}
		if all[i] < 0 || len(piece.V)-len(piece.E)+faces != 2-2*all[i] {
			t.Fatalf("%v, %v: Genus of %v: %v, of the piece %v", g, p, turn, all, piece)
		}
		sphere = sphere && all[i] == 0
	}
	if Sphere(g, p, turn) != sphere {
		t.Fatalf("%v, %v: Sphere of %v: %v, and the genus %v", g, p, turn, !sphere, all)
	}
	return all
}

// check holds all that is told of turns against the second way.
func check(t *testing.T, g api.Graph, p api.Part, turn [][]int) {
	t.Helper()
	walks := checkWalks(t, g, p, turn)
	checkKeysAndCorners(t, g, p, turn, walks)
	all := checkGenus(t, g, p, turn, walks)
	checkMirrored(t, g, p, turn, walks, all)
}

// checkMirrored holds what is told of turns against what is told of them mirrored: the genus is the same, and each walk has the twins' darts, the other way round.
func checkMirrored(t *testing.T, g api.Graph, p api.Part, turn [][]int, walks []Walk, genus []int) {
	t.Helper()
	about := sample.About(turn)
	mirrored, _ := Genus(g, p, about)
	if !slices.Equal(mirrored, genus) || Sphere(g, p, about) != Sphere(g, p, turn) {
		t.Fatalf("%v, %v: Genus of %v: %v, mirrored %v", g, p, turn, genus, mirrored)
	}
	other := checkWalks(t, g, p, about)
	if len(other) != len(walks) {
		t.Fatalf("%v, %v: %v: %v, mirrored %v", g, p, turn, walks, other)
	}
	for _, w := range walks {
		if len(w.Darts) > 0 && !isAround(about, twinsBack(w.Darts)) {
			t.Fatalf("%v, %v: %v: %v is none, mirrored", g, p, turn, w)
		}
	}
}

// twinsBack answers the twins of darts, the last one's first.
func twinsBack(darts []int) []int {
	var twins []int
	for _, d := range slices.Backward(darts) {
		twins = append(twins, twin(d))
	}
	return twins
}

func TestSmallGraphs(t *testing.T) {
	for i, c := range sample.AllTurns(append(sample.Graphs(3, 2), sample.Graphs(2, 3)...)) {
		check(t, c.G, c.P, sample.Turned(c.Turn, i))
	}
}

// mixedTurn answers turns of all of sample.Mixed: genus 1 at 8, all else is drawn on spheres.
func mixedTurn() [][]int {
	return [][]int{{0, 5, 6, 7, 9}, {2, 1, 8}, {10, 4, 3}, {11}, nil, {12}, {13}, {}, {14, 16, 15, 17}, nil}
}

// Promise 7.1: Walks.

func isSame(a, b Walk) bool {
	return a.Key == b.Key && slices.Equal(a.Darts, b.Darts)
}

func checkWalksAre(t *testing.T, g api.Graph, p api.Part, turn [][]int, want ...Walk) {
	t.Helper()
	if walks, e := Walks(g, p, turn); e != api.OK || !slices.EqualFunc(walks, want, isSame) {
		t.Errorf("Walks of %v, %v: %v, %d", p, turn, walks, e)
	}
	check(t, g, p, turn)
}

func TestWalks(t *testing.T) {
	g := sample.Mixed()
	want := []Walk{
		{-10, nil}, {-8, nil}, {-5, nil},
		{0, []int{0, 2, 4}}, {1, []int{1, 9}}, {3, []int{3, 8, 7, 5, 10, 11}}, {6, []int{6}},
		{12, []int{12, 13}}, {14, []int{14, 16, 15, 17}},
	}
	for i := range 60 {
		// The lists begin with any of their darts.
		checkWalksAre(t, g, graph.Whole(g), sample.Turned(mixedTurn(), i), want...)
	}
	checkWalksAre(t, g, graph.Whole(g), sample.About(mixedTurn()),
		Walk{-10, nil}, Walk{-8, nil}, Walk{-5, nil},
		Walk{0, []int{0, 8}}, Walk{1, []int{1, 5, 3}}, Walk{2, []int{2, 10, 11, 4, 6, 9}}, Walk{7, []int{7}},
		Walk{12, []int{12, 13}}, Walk{14, []int{14, 17, 15, 16}})
}

func TestWalksOfParts(t *testing.T) {
	g := sample.Mixed()
	checkWalksAre(t, g, api.Part{V: []int{0, 1, 2, 3}, E: []int{1, 2, 4}}, [][]int{{5, 9}, {8, 2}, {4, 3}, nil, nil, nil, nil, nil, nil, nil},
		Walk{-4, nil}, Walk{2, []int{2, 4, 9}}, Walk{3, []int{3, 8, 5}})
	checkWalksAre(t, g, api.Part{V: []int{2, 3, 8}, E: []int{5, 8}}, [][]int{nil, nil, {10}, {11}, nil, nil, nil, nil, {17, 16}, nil},
		Walk{10, []int{10, 11}}, Walk{16, []int{16}}, Walk{17, []int{17}})
	checkWalksAre(t, g, api.Part{V: []int{0, 4, 9}}, make([][]int, 10), Walk{-10, nil}, Walk{-5, nil}, Walk{-1, nil})
	checkWalksAre(t, g, api.Part{V: []int{7}, E: []int{}}, make([][]int, 10), Walk{-8, nil})
	checkWalksAre(t, g, api.Part{}, make([][]int, 10))
	checkWalksAre(t, g, api.Part{V: []int{}, E: []int{}}, [][]int{{}, nil, {}, nil, {}, nil, {}, nil, {}, nil})
}

func TestWalksOfPlainGraphs(t *testing.T) {
	example := api.Graph{N: 2, E: sample.Edges(0, 1, 0, 1)}
	for _, turn := range [][][]int{{{0, 2}, {1, 3}}, {{2, 0}, {1, 3}}, {{0, 2}, {3, 1}}, {{2, 0}, {3, 1}}} {
		checkWalksAre(t, example, graph.Whole(example), turn, Walk{0, []int{0, 3}}, Walk{1, []int{1, 2}})
	}
	checkWalksAre(t, api.Graph{}, api.Part{}, nil)
	checkWalksAre(t, api.Graph{E: []api.Edge{}}, api.Part{V: []int{}, E: []int{}}, [][]int{})
	checkWalksAre(t, api.Graph{N: 1}, api.Part{V: []int{0}}, [][]int{nil}, Walk{-1, nil})
	loop := api.Graph{N: 1, E: sample.Loops(1)}
	checkWalksAre(t, loop, graph.Whole(loop), [][]int{{1, 0}}, Walk{0, []int{0}}, Walk{1, []int{1}})
	bridge := api.Graph{N: 2, E: sample.Edges(1, 0)}
	checkWalksAre(t, bridge, graph.Whole(bridge), [][]int{{1}, {0}}, Walk{0, []int{0, 1}})
	triangle := sample.Ring(3)
	checkWalksAre(t, triangle, graph.Whole(triangle), [][]int{{0, 5}, {2, 1}, {4, 3}}, Walk{0, []int{0, 2, 4}}, Walk{1, []int{1, 5, 3}})
	// A star's one walk goes along each edge twice.
	star := sample.Star(4)
	checkWalksAre(t, star, graph.Whole(star), [][]int{{0, 2, 4}, {1}, {3}, {5}}, Walk{0, []int{0, 1, 4, 5, 2, 3}})
	// A way of two edges, told the other way round.
	way := api.Graph{N: 3, E: sample.Edges(2, 1, 0, 1)}
	checkWalksAre(t, way, graph.Whole(way), [][]int{{2}, {3, 1}, {0}}, Walk{0, []int{0, 3, 2, 1}})
}

// Promise 7.1: Key.

func TestKey(t *testing.T) {
	g := sample.Mixed()
	keys := map[int]int{
		0: 0, 1: 1, 2: 0, 3: 3, 4: 0, 5: 3, 6: 6, 7: 3, 8: 3, 9: 1, 10: 3, 11: 3, 12: 12, 13: 12, 14: 14, 15: 14, 16: 14, 17: 14,
		-5: -5, -8: -8, -10: -10,
	}
	for i := range 5 {
		turn := sample.Turned(mixedTurn(), i)
		for d := -30; d < 30; d++ {
			want, is := keys[d]
			if key, ok := Key(g, graph.Whole(g), turn, d); key != want || ok != is {
				t.Errorf("Key of %d: %d, %v", d, key, ok)
			}
		}
		for _, d := range []int{2047, 2048, -1025, -1026, least, least + 1, greatest, greatest - 1} {
			if key, ok := Key(g, graph.Whole(g), turn, d); key != 0 || ok {
				t.Errorf("Key of %d: %d, %v", d, key, ok)
			}
		}
	}
}

func TestKeyOfParts(t *testing.T) {
	g := sample.Mixed()
	p := api.Part{V: []int{0, 1, 2, 3, 8}, E: []int{1, 2, 4}}
	turn := [][]int{{5, 9}, {8, 2}, {4, 3}, nil, nil, nil, nil, nil, nil, nil}
	keys := map[int]int{2: 2, 4: 2, 9: 2, 3: 3, 8: 3, 5: 3, -4: -4, -9: -9}
	for _, d := range append(sample.UpTo(20), -1, -2, -3, -4, -5, -6, -7, -8, -9, -10, -11, -12, least, greatest) {
		want, is := keys[d]
		if key, ok := Key(g, p, turn, d); key != want || ok != is {
			t.Errorf("Key of %d: %d, %v", d, key, ok)
		}
		// Of a part with nothing in it there is nothing.
		if key, ok := Key(g, api.Part{}, make([][]int, 10), d); key != 0 || ok {
			t.Errorf("Key of %d, of nothing: %d, %v", d, key, ok)
		}
		if key, ok := Key(api.Graph{}, api.Part{}, nil, d); key != 0 || ok {
			t.Errorf("Key of %d, of no graph: %d, %v", d, key, ok)
		}
	}
}

// Promises 7.1 and 7.2: what layer 6 refuses.

func checkRefused(t *testing.T, g api.Graph, p api.Part, turn [][]int, want api.Errno) {
	t.Helper()
	if walks, e := Walks(g, p, turn); e != want || len(walks) > 0 {
		t.Errorf("Walks of %v, %v, %v: %v, %d, not %d", g, p, turn, walks, e, want)
	}
	if all, e := Genus(g, p, turn); e != want || len(all) > 0 {
		t.Errorf("Genus of %v, %v, %v: %v, %d, not %d", g, p, turn, all, e, want)
	}
	if Sphere(g, p, turn) {
		t.Errorf("Sphere of %v, %v, %v", g, p, turn)
	}
	for _, d := range []int{0, 1, 3, 12, 14, -1, -5, -8, -10, -11, least, greatest} {
		if key, ok := Key(g, p, turn, d); key != 0 || ok {
			t.Errorf("Key of %v, %v, %v, %d: %d, %v", g, p, turn, d, key, ok)
		}
	}
}

func TestNoTurns(t *testing.T) {
	g := sample.Mixed()
	right := mixedTurn()
	for _, turn := range [][][]int{
		nil, {}, make([][]int, 10), right[:9], right[1:], append(mixedTurn(), nil), append([][]int{nil}, right...), {slices.Concat(right...)}, make([][]int, 1<<16),
	} {
		checkRefused(t, g, graph.Whole(g), turn, api.ErrTurn)
	}
	for v, l := range right {
		turn := mixedTurn()
		turn[v] = append(slices.Clone(l), 0)
		checkRefused(t, g, graph.Whole(g), turn, api.ErrTurn)
		for i := range l {
			for _, d := range []int{l[i] ^ 1, 18, -1, -1 - v, least, greatest} {
				turn = mixedTurn()
				turn[v][i] = d
				checkRefused(t, g, graph.Whole(g), turn, api.ErrTurn)
			}
			turn[v] = slices.Delete(turn[v], i, i+1)
			checkRefused(t, g, graph.Whole(g), turn, api.ErrTurn)
		}
	}
	// Turns of all, of parts; of a vertex alone, of the part that hasn't it.
	checkRefused(t, g, api.Part{}, mixedTurn(), api.ErrTurn)
	checkRefused(t, g, api.Part{V: sample.UpTo(10)}, mixedTurn(), api.ErrTurn)
	for e := range g.E {
		checkRefused(t, g, graph.Drop(graph.Whole(g), e), mixedTurn(), api.ErrTurn)
	}
	checkRefused(t, api.Graph{N: 1}, api.Part{V: []int{0}}, [][]int{{-1}}, api.ErrTurn)
	checkRefused(t, api.Graph{N: 1}, api.Part{V: []int{0}}, nil, api.ErrTurn)
	checkRefused(t, api.Graph{}, api.Part{}, [][]int{nil}, api.ErrTurn)
}

func TestFirstErrors(t *testing.T) {
	g := sample.Mixed()
	turns := [][][]int{mixedTurn(), nil, {{0}}, make([][]int, 10)}
	for _, p := range sample.WrongParts(g) {
		for _, turn := range turns {
			checkRefused(t, g, p, turn, api.ErrPart)
		}
	}
	for _, c := range sample.WrongGraphs() {
		for _, p := range []api.Part{{}, {V: []int{0}}, {V: []int{1, 0}}, {E: []int{-1}}} {
			for _, turn := range turns {
				checkRefused(t, c.G, p, turn, c.Want)
			}
		}
	}
}

// Promise 7.2: Genus, Sphere.

func checkGenusIs(t *testing.T, g api.Graph, p api.Part, turn [][]int, want ...int) {
	t.Helper()
	if all, e := Genus(g, p, turn); e != api.OK || !slices.Equal(all, want) {
		t.Errorf("Genus of %v, %v: %v, %d, not %v", p, turn, all, e, want)
	}
	if sphere := len(want) == 0 || slices.Max(want) == 0; Sphere(g, p, turn) != sphere {
		t.Errorf("Sphere of %v, %v: %v", p, turn, !sphere)
	}
	check(t, g, p, turn)
}

func TestGenus(t *testing.T) {
	g := sample.Mixed()
	all := graph.Whole(g)
	for i := range 4 {
		checkGenusIs(t, g, all, sample.Turned(mixedTurn(), i), 0, 0, 0, 0, 1, 0)
		turn := mixedTurn()
		turn[8] = []int{14, 15, 16, 17}
		checkGenusIs(t, g, all, sample.Turned(turn, i), 0, 0, 0, 0, 0, 0)
		// An edge of the triangle leaves out of the loop.
		turn[0] = []int{0, 6, 5, 7, 9}
		checkGenusIs(t, g, all, sample.Turned(turn, i), 1, 0, 0, 0, 0, 0)
		turn[2] = []int{10, 3, 4}
		checkGenusIs(t, g, all, sample.Turned(turn, i), 1, 0, 0, 0, 0, 0)
		turn[8] = []int{14, 17, 15, 16}
		checkGenusIs(t, g, all, sample.Turned(turn, i), 1, 0, 0, 0, 1, 0)
	}
	// A piece that holds the least vertex and the greatest one; the other one's edges come first.
	g = api.Graph{N: 3, E: sample.Edges(1, 1, 1, 1, 0, 2, 2, 0, 0, 2)}
	checkGenusIs(t, g, graph.Whole(g), [][]int{{4, 7, 8}, {0, 1, 2, 3}, {5, 9, 6}}, 0, 0)
	checkGenusIs(t, g, graph.Whole(g), [][]int{{4, 7, 8}, {0, 1, 2, 3}, {5, 6, 9}}, 1, 0)
	checkGenusIs(t, g, graph.Whole(g), [][]int{{4, 7, 8}, {0, 2, 1, 3}, {5, 9, 6}}, 0, 1)
	checkGenusIs(t, g, api.Part{V: sample.UpTo(3), E: []int{0, 2, 3}}, [][]int{{4, 7}, {0, 1}, {5, 6}}, 0, 0)
	checkGenusIs(t, g, api.Part{V: sample.UpTo(2), E: []int{0, 1}}, [][]int{nil, {0, 2, 1, 3}, nil}, 0, 1)
}

func TestGenusOfFewThings(t *testing.T) {
	checkGenusIs(t, api.Graph{}, api.Part{}, nil)
	checkGenusIs(t, api.Graph{N: 3}, api.Part{}, [][]int{nil, {}, nil})
	checkGenusIs(t, api.Graph{N: 3}, api.Part{V: []int{0, 2}}, [][]int{nil, {}, nil}, 0, 0)
	loop := api.Graph{N: 1, E: sample.Loops(1)}
	checkGenusIs(t, loop, graph.Whole(loop), [][]int{{0, 1}}, 0)
	checkGenusIs(t, loop, api.Part{V: []int{0}}, [][]int{nil}, 0)
	bridge := api.Graph{N: 3, E: sample.Edges(2, 0)}
	checkGenusIs(t, bridge, graph.Whole(bridge), [][]int{{1}, nil, {0}}, 0, 0)
	example := api.Graph{N: 2, E: sample.Edges(0, 1, 0, 1)}
	checkGenusIs(t, example, graph.Whole(example), [][]int{{0, 2}, {1, 3}}, 0)
	bundle := sample.Bundle(3)
	checkGenusIs(t, bundle, graph.Whole(bundle), [][]int{{0, 2, 4}, {1, 5, 3}}, 0)
	checkGenusIs(t, bundle, graph.Whole(bundle), [][]int{{0, 2, 4}, {1, 3, 5}}, 1)
}

// How many turns of a graph in one piece have which genus has been counted elsewhere.
func TestHowManyHaveWhichGenus(t *testing.T) {
	for name, c := range map[string]struct {
		g    api.Graph
		want []int
	}{
		"2 loops":      {api.Graph{N: 1, E: sample.Loops(2)}, []int{4, 2}},
		"3 loops":      {api.Graph{N: 1, E: sample.Loops(3)}, []int{40, 80}},
		"4 loops":      {api.Graph{N: 1, E: sample.Loops(4)}, []int{672, 3360, 1008}},
		"bundle of 3":  {sample.Bundle(3), []int{2, 2}},
		"bundle of 4":  {sample.Bundle(4), []int{6, 30}},
		"bundle of 5":  {sample.Bundle(5), []int{24, 360, 192}},
		"ring":         {sample.Ring(5), []int{1}},
		"star":         {sample.Star(6), []int{24}},
		"4, each to 3": {api.Graph{N: 4, E: sample.Edges(0, 1, 0, 2, 0, 3, 1, 2, 1, 3, 2, 3)}, []int{2, 14}},
		"3 to 3":       {api.Graph{N: 6, E: sample.Edges(0, 3, 0, 4, 0, 5, 1, 3, 1, 4, 1, 5, 2, 3, 2, 4, 2, 5)}, []int{0, 40, 24}},
		"5, each to 4": {api.Graph{N: 5, E: sample.Edges(0, 1, 0, 2, 0, 3, 0, 4, 1, 2, 1, 3, 1, 4, 2, 3, 2, 4, 3, 4)}, []int{0, 462, 4974, 2340}},
	} {
		counts := make([]int, len(c.want))
		for _, turn := range sample.Turns(c.g, graph.Whole(c.g)) {
			all, e := Genus(c.g, graph.Whole(c.g), turn)
			if e != api.OK || len(all) != 1 || all[0] < 0 || all[0] >= len(counts) {
				t.Fatalf("%s: Genus of %v: %v, %d", name, turn, all, e)
			}
			counts[all[0]]++
		}
		if !slices.Equal(counts, c.want) {
			t.Errorf("%s: %v", name, counts)
		}
	}
}

// Promise 7.2: Corners.

func checkCorners(t *testing.T, g api.Graph, w Walk, want ...int) {
	t.Helper()
	if corners := Corners(g, w); !slices.Equal(corners, want) {
		t.Errorf("Corners of %v: %v, not %v", w, corners, want)
	}
}

func TestCorners(t *testing.T) {
	g := sample.Mixed()
	// The key of a walk with darts, and whether it is one at all, makes no difference.
	for _, key := range []int{0, 3, -1, -5, -11, 18, 99, least, greatest} {
		checkCorners(t, g, Walk{key, []int{3, 8, 7, 5, 10, 11}}, 2, 1, 0, 0, 2, 3)
		checkCorners(t, g, Walk{key, []int{0, 2, 4}}, 0, 1, 2)
		checkCorners(t, g, Walk{key, []int{17}}, 8)
		checkCorners(t, g, Walk{key, []int{12, 12, 0, 13, 12}}, 5, 5, 0, 6, 5)
	}
	for d := range 2 * len(g.E) {
		checkCorners(t, g, Walk{d, []int{d}}, leaving(g, d))
	}
}

func TestCornersOfNoDarts(t *testing.T) {
	g := sample.Mixed()
	right := []int{3, 8, 7}
	for _, d := range []int{18, 19, 2047, -1, -2, -5, -18, least, least + 1, greatest, greatest - 1} {
		checkCorners(t, g, Walk{3, []int{d}})
		checkCorners(t, g, Walk{-5, []int{d}})
		for i := range len(right) + 1 {
			checkCorners(t, g, Walk{3, slices.Insert(slices.Clone(right), i, d)})
		}
		checkCorners(t, api.Graph{}, Walk{0, []int{d}})
		checkCorners(t, api.Graph{N: 10}, Walk{-5, []int{d}})
	}
	for _, c := range sample.WrongGraphs() {
		for _, darts := range [][]int{{0}, {1}, {0, 1}, {2, 3}, {-1}, {least}, {greatest}} {
			checkCorners(t, c.G, Walk{0, darts})
			checkCorners(t, c.G, Walk{-1, darts})
		}
	}
}

func TestCornersOfWalksWithoutDarts(t *testing.T) {
	graphs := []api.Graph{{}, {N: 1}, {N: 2, E: sample.Edges(0, 1)}, sample.Mixed(), {N: 1024}}
	for _, c := range sample.WrongGraphs() {
		graphs = append(graphs, c.G)
	}
	for _, g := range graphs {
		for _, darts := range [][]int{nil, {}} {
			for _, v := range []int{0, 1, 2, 4, 9, 10, 511, 1023, 1024, 1025, 1 << 32, greatest - 1024, greatest - 1} {
				if v < g.N {
					checkCorners(t, g, Walk{-1 - v, darts}, v)
				} else {
					checkCorners(t, g, Walk{-1 - v, darts})
				}
			}
			// What is no key of a vertex.
			for _, key := range []int{0, 1, 5, 1023, 1024, greatest, greatest - 1, least} {
				checkCorners(t, g, Walk{key, darts})
			}
		}
	}
}

// Promise 7.3, of great turns.

func TestGreatTurns(t *testing.T) {
	for name, g := range map[string]api.Graph{
		"loops": {N: 1, E: sample.Loops(1023)}, "ring": sample.Ring(512), "star": sample.Star(512), "bundle": sample.Bundle(1022), "vertices": {N: 1024},
	} {
		var turn [][]int
		for v := range g.N {
			turn = append(turn, sample.Leaving(g, graph.Whole(g), v))
		}
		for _, turn := range [][][]int{turn, sample.Mingled(g)} {
			walks := checkGreatWalks(t, name, g, turn)
			all, _ := Genus(g, graph.Whole(g), turn)
			mirrored, e := Genus(g, graph.Whole(g), sample.About(turn))
			if e != api.OK || !slices.Equal(all, mirrored) || slices.Min(all) < 0 {
				t.Errorf("%s: Genus: %v, mirrored %v, %d", name, all, mirrored, e)
			}
			if len(all) == 1 && g.N-len(g.E)+len(walks) != 2-2*all[0] {
				t.Errorf("%s: Genus: %v, of %d walks", name, all, len(walks))
			}
		}
	}
}

// checkGreatWalks holds of all walks of a graph that each dart is in just one, whose key it has.
func checkGreatWalks(t *testing.T, name string, g api.Graph, turn [][]int) []Walk {
	t.Helper()
	walks, e := Walks(g, graph.Whole(g), turn)
	if e != api.OK {
		t.Fatalf("%s: Walks: %d", name, e)
	}
	var met []int
	for i, w := range walks {
		met = append(met, w.Darts...)
		asked := w.Key
		if len(w.Darts) > 0 {
			asked = w.Darts[len(w.Darts)-1]
		}
		if key, ok := Key(g, graph.Whole(g), turn, asked); key != w.Key || !ok || i > 0 && walks[i-1].Key >= w.Key {
			t.Fatalf("%s: Key of %d: %d, %v, not %d", name, asked, key, ok, w.Key)
		}
		if corners := Corners(g, w); len(corners) != max(len(w.Darts), 1) {
			t.Fatalf("%s: Corners of %v: %v", name, w, corners)
		}
	}
	if slices.Sort(met); !slices.Equal(met, sample.UpTo(2*len(g.E))) {
		t.Fatalf("%s: %d darts are met", name, len(met))
	}
	return walks
}

func TestGreatGenus(t *testing.T) {
	// Loops by twos, each two of them crossing.
	g := api.Graph{N: 1, E: sample.Loops(1022)}
	var crossing []int
	for d := 0; d < 2044; d += 4 {
		crossing = append(crossing, d, d+2, d+1, d+3)
	}
	for want, l := range map[int][]int{511: crossing, 0: sample.UpTo(2044)} {
		all, e := Genus(g, graph.Whole(g), [][]int{l})
		if e != api.OK || !slices.Equal(all, []int{want}) || Sphere(g, graph.Whole(g), [][]int{l}) != (want == 0) {
			t.Errorf("Genus: %v, %d, not %d", all, e, want)
		}
	}
	walks, e := Walks(g, graph.Whole(g), [][]int{crossing})
	if e != api.OK || len(walks) != 1 || walks[0].Key != 0 || len(walks[0].Darts) != 2044 {
		t.Errorf("Walks: %d, %d", len(walks), e)
	}
}

// All promises: nothing that is handed in changes or is kept, nothing that is handed out is shared.

// told answers all lists that are told of turns.
func told(g api.Graph, p api.Part, turn [][]int) [][]int {
	var lists [][]int
	walks, _ := Walks(g, p, turn)
	for _, w := range walks {
		lists = append(lists, w.Darts, Corners(g, w))
	}
	all, _ := Genus(g, p, turn)
	Sphere(g, p, turn)
	Key(g, p, turn, 1)
	Key(g, p, turn, -1)
	return append(lists, all)
}

func TestNothingIsChangedOrShared(t *testing.T) {
	for i, c := range sample.AllTurns(append(sample.Graphs(2, 2), sample.Mixed())) {
		if c.G.N > 2 && i > 0 {
			continue // one of many
		}
		if err := sample.FaultOf(c.G, c.P, sample.Turned(c.Turn, 1), told); err != nil {
			t.Fatalf("%v, %v, %v: %v", c.G, c.P, c.Turn, err)
		}
	}
}

func TestRefusedListsArentChanged(t *testing.T) {
	g := sample.Mixed()
	for _, wrong := range [][]int{{0, 5, 6, 7}, {9, 0, 5, 6, 6}, {9, 0, 5, 6, 18}, nil} {
		turn := mixedTurn()
		turn[0] = wrong
		if err := sample.FaultOf(g, graph.Whole(g), turn, told); err != nil {
			t.Errorf("%v: %v", wrong, err)
		}
	}
}

func TestWalksArentChangedOrShared(t *testing.T) {
	for _, g := range []api.Graph{sample.Mixed(), {N: 2, E: sample.Edges(0, 5)}} {
		for _, w := range []Walk{{3, []int{3, 8, 7, 5}}, {3, []int{3, 8, 99}}, {-1, nil}, {-2, []int{}}, {-11, nil}, {0, []int{0, 0}}} {
			room := &sample.Room{}
			laidGraph, laid := room.Graph(g), Walk{w.Key, room.List(w.Darts)}
			if err := room.Fault(func() [][]int { return [][]int{Corners(laidGraph, laid), Corners(laidGraph, laid)} }); err != nil {
				t.Errorf("%v, %v: %v", g, w, err)
			}
		}
	}
}

func TestWhatIsWrittenIntoWalksIsntSeen(t *testing.T) {
	g := sample.Mixed()
	want, _ := Walks(g, graph.Whole(g), mixedTurn())
	first, _ := Walks(g, graph.Whole(g), mixedTurn())
	for i := range first[:cap(first)] {
		first[:cap(first)][i] = Walk{Key: -7, Darts: []int{-7}}
	}
	again, e := Walks(g, graph.Whole(g), mixedTurn())
	if e != api.OK || !slices.EqualFunc(again, want, isSame) {
		t.Errorf("Walks: %v, %d, not %v", again, e, want)
	}
}
