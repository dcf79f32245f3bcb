package plan

import (
	"math"
	"slices"
	"testing"

	"tracery/api"
	"tracery/graph"
	"tracery/sample"
	"tracery/walk"
)

const (
	least    = math.MinInt
	greatest = math.MaxInt
)

// The plain second way: walks, and how pieces hang together, as package sample has them.

// areAlike tells whether two lists of lists are.
func areAlike(a, b [][]int) bool {
	return slices.EqualFunc(a, b, slices.Equal)
}

// begun answers each list, begun with the first of its least.
func begun(turn [][]int) [][]int {
	all := make([][]int, len(turn))
	for v, l := range turn {
		for i, x := range l {
			if x == slices.Min(l) {
				all[v] = slices.Concat(l[i:], l[:i])
				break
			}
		}
	}
	return all
}

// isOne tells whether two plans are one, once they are clean.
func isOne(a, b api.Plan) bool {
	return areAlike(begun(a.Turn), begun(b.Turn)) && areAlike(a.Same, b.Same)
}

// isClean tells whether a plan is another one, clean.
func isClean(x, of api.Plan) bool {
	return areAlike(x.Turn, begun(of.Turn)) && areAlike(x.Same, of.Same)
}

// isNone tells whether a plan has nothing.
func isNone(x api.Plan) bool {
	return len(x.Turn) == 0 && len(x.Same) == 0
}

// regionsOf answers all regions of a drawing.
func regionsOf(p api.Part, x api.Plan) [][]int {
	var regions [][]int
	for _, w := range sample.Walks(p, x.Turn) {
		region := w[:1]
		for _, l := range x.Same {
			if slices.Contains(l, w[0]) {
				region = l
			}
		}
		if region[0] == w[0] {
			regions = append(regions, region)
		}
	}
	return regions
}

// beside answers for each region of a drawing what all of its walks have, put in order; of its mirror, if about says so: a dart's twin for each dart.
func beside(p api.Part, x api.Plan, about bool) [][]int {
	var all [][]int
	for _, region := range regionsOf(p, x) {
		var darts []int
		for _, w := range sample.Walks(p, x.Turn) {
			if !slices.Contains(region, w[0]) {
				continue
			}
			for _, d := range w {
				if about && d >= 0 {
					d = 2*(d/2) + 1 - d%2
				}
				darts = append(darts, d)
			}
		}
		slices.Sort(darts)
		all = append(all, darts)
	}
	slices.SortFunc(all, slices.Compare)
	return all
}

// checkRegions holds the regions of a drawing against the second way.
func checkRegions(t *testing.T, g api.Graph, p api.Part, x api.Plan) {
	t.Helper()
	if e := Right(g, p, x); e != api.OK {
		t.Fatalf("%v, %v: Right of %v: %d", g, p, x, e)
	}
	want := regionsOf(p, x)
	regions, e := Regions(g, p, x)
	if e != api.OK || !areAlike(regions, want) {
		t.Fatalf("%v, %v: Regions of %v: %v, %d, not %v", g, p, x, regions, e, want)
	}
	for key := -g.N - 3; key < 2*len(g.E)+3; key++ {
		at := slices.IndexFunc(want, func(l []int) bool { return slices.Contains(l, key) })
		if i, ok := Region(g, p, x, key); i != max(at, 0) || ok != (at >= 0) {
			t.Fatalf("%v, %v: Region of %v, %d: %d, %v", g, p, x, key, i, ok)
		}
	}
	// Promise 8.4: Euler's count. A part with nothing in it has no regions, and isn't counted.
	pieces, _ := walk.Pieces(g, p)
	if len(pieces) > 0 && len(p.V)-len(p.E)+len(regions) != 1+len(pieces) {
		t.Fatalf("%v, %v: %v: the regions %v, the pieces %v", g, p, x, regions, pieces)
	}
}

// checkMirror holds the mirror of a drawing against the second way.
func checkMirror(t *testing.T, g api.Graph, p api.Part, x api.Plan) {
	t.Helper()
	m, e := Mirror(g, p, x)
	if e != api.OK || !areAlike(m.Turn, begun(sample.About(x.Turn))) {
		t.Fatalf("%v, %v: Mirror of %v: %v, %d", g, p, x, m, e)
	}
	if there, here := beside(p, m, false), beside(p, x, true); !areAlike(there, here) {
		t.Fatalf("%v, %v: Mirror of %v: %v: %v, not %v", g, p, x, m, there, here)
	}
	// Promise 8.4: it is a drawing, and its mirror is this one.
	checkRegions(t, g, p, m)
	if again, e := Mirror(g, p, m); e != api.OK || !isClean(again, x) {
		t.Fatalf("%v, %v: %v, mirrored twice: %v, %d", g, p, x, again, e)
	}
}

// check holds all that is told of a drawing against the second way.
func check(t *testing.T, g api.Graph, p api.Part, x api.Plan) {
	t.Helper()
	checkRegions(t, g, p, x)
	checkMirror(t, g, p, x)
	checkClean(t, x)
}

// checkClean holds a plan's clean one against the second way.
func checkClean(t *testing.T, x api.Plan) {
	t.Helper()
	c := Clean(x)
	if !isClean(c, x) || !Same(x, c) || !Same(c, x) || !Same(x, x) {
		t.Fatalf("Clean of %v: %v", x, c)
	}
}

// checkLone holds the drawing without lists against whether it is one.
func checkLone(t *testing.T, g api.Graph, p api.Part, turn [][]int, want api.Errno) {
	t.Helper()
	x, e := Lone(g, p, turn)
	if e != want || e != api.OK && !isNone(x) || e == api.OK && !isClean(x, api.Plan{Turn: turn}) {
		t.Fatalf("%v, %v: Lone of %v: %v, %d, not %d", g, p, turn, x, e, want)
	}
}

// checkWrong holds what is told of a plan that is no drawing.
func checkWrong(t *testing.T, g api.Graph, p api.Part, x api.Plan, want api.Errno) {
	t.Helper()
	if e := Right(g, p, x); e != want {
		t.Errorf("%v, %v: Right of %v: %d, not %d", g, p, x, e, want)
	}
	if l, e := Regions(g, p, x); e != want || len(l) > 0 {
		t.Errorf("%v, %v: Regions of %v: %v, %d, not %d", g, p, x, l, e, want)
	}
	if m, e := Mirror(g, p, x); e != want || !isNone(m) {
		t.Errorf("%v, %v: Mirror of %v: %v, %d, not %d", g, p, x, m, e, want)
	}
	for _, key := range []int{0, 1, 3, 12, 14, -1, -2, -5, -8, -10, -11, least, greatest} {
		if i, ok := Region(g, p, x, key); i != 0 || ok {
			t.Errorf("%v, %v: Region of %v, %d: %d, %v", g, p, x, key, i, ok)
		}
	}
	checkClean(t, x)
}

func TestSmallGraphs(t *testing.T) {
	for i, c := range sample.AllTurns(append(sample.Graphs(3, 2), sample.Graphs(2, 3)...)) {
		turn := sample.Turned(c.Turn, i)
		drawings := sample.Hangings(c.G, c.P, turn)
		for _, regions := range drawings {
			check(t, c.G, c.P, api.Plan{Turn: turn, Same: sample.Together(regions)})
		}
		pieces, _ := walk.Pieces(c.G, c.P)
		switch {
		case len(drawings) == 0:
			checkLone(t, c.G, c.P, turn, api.ErrGenus)
			checkWrong(t, c.G, c.P, api.Plan{Turn: turn}, api.ErrGenus)
		case len(pieces) > 1:
			checkLone(t, c.G, c.P, turn, api.ErrSplit)
		default:
			checkLone(t, c.G, c.P, turn, api.OK)
		}
	}
}

// Of all ways to put the walks of turns into groups just those are drawings that the second way says.
func TestAllGroups(t *testing.T) {
	for i, c := range sample.AllTurns(append(sample.Graphs(3, 2), sample.Graphs(2, 3)...)) {
		turn := sample.Turned(c.Turn, i)
		want := api.ErrGenus
		drawings := sample.Hangings(c.G, c.P, turn)
		if len(drawings) > 0 {
			want = api.ErrGroup
		}
		var keys []int
		for _, w := range sample.Walks(c.P, turn) {
			keys = append(keys, w[0])
		}
		for _, groups := range sample.Partitions(keys...) {
			if !slices.ContainsFunc(drawings, func(regions [][]int) bool { return areAlike(regions, groups) }) {
				checkWrong(t, c.G, c.P, api.Plan{Turn: turn, Same: sample.Together(groups)}, want)
			}
		}
	}
}

// Of all lists of few numbers just those are drawings that the second way says.
func TestAllLists(t *testing.T) {
	lists := sample.Lists(3, -3, -2, 0, 1, 2)
	places := sample.Lists(2, sample.UpTo(len(lists))...)
	for name, g := range map[string]api.Graph{
		"nothing": {}, "a vertex": {N: 1}, "two vertices": {N: 2}, "a loop and a vertex": {N: 2, E: sample.Loops(1)}, "three vertices": {N: 3},
		"two loops": {N: 2, E: sample.Edges(0, 0, 1, 1)}, "a bridge and two vertices": {N: 4, E: sample.Edges(0, 3)},
	} {
		p := graph.Whole(g)
		turn := begun(sample.Turns(g, p)[0])
		var right [][][]int
		for _, regions := range sample.Hangings(g, p, turn) {
			right = append(right, sample.Together(regions))
		}
		for _, at := range places {
			var same [][]int
			for _, i := range at {
				same = append(same, lists[i])
			}
			want := api.ErrGroup
			if slices.ContainsFunc(right, func(l [][]int) bool { return areAlike(l, same) }) {
				want = api.OK
			}
			if e := Right(g, p, api.Plan{Turn: turn, Same: same}); e != want {
				t.Fatalf("%s: Right of %v, %v: %d, not %d", name, turn, same, e, want)
			}
		}
	}
}

// mixedTurn answers turns of all of sample.Mixed, on spheres. The walks' keys: -10, -8, -5 for the vertices 9, 7, 4; 0 for 0 2 4, 1 for 1 9, 3 for 3 8 7 5 10 11, 6 for 6; 12 for 12 13; 14 for 14, 15 for 15 17, 16 for 16.
func mixedTurn() [][]int {
	return [][]int{{0, 5, 6, 7, 9}, {2, 1, 8}, {10, 4, 3}, {11}, nil, {12}, {13}, {}, {14, 15, 16, 17}, nil}
}

// mixedPlan answers a drawing of all of sample.Mixed.
func mixedPlan() api.Plan {
	return api.Plan{Turn: mixedTurn(), Same: [][]int{{-10, 3, 12}, {-8, 14}, {-5, 1}, {6, 15}}}
}

// Promise 8.1: Right.

func TestRight(t *testing.T) {
	g := sample.Mixed()
	for i := range 60 {
		x := mixedPlan()
		x.Turn = sample.Turned(x.Turn, i)
		check(t, g, graph.Whole(g), x)
	}
	for _, same := range [][][]int{
		{{-10, -8, -5, 0, 12, 14}},
		{{-10, -8, -5, 6, 12, 15}},
		{{-10, 0}, {-8, 1}, {-5, 3}, {6, 12, 16}},
		{{-10, -8, 15}, {-5, 16}, {0, 12}, {3, 14}},
		{{-10, -8, -5, 12, 16}, {3, 14}},
	} {
		check(t, g, graph.Whole(g), api.Plan{Turn: mixedTurn(), Same: same})
	}
}

func TestRightOfParts(t *testing.T) {
	g := sample.Mixed()
	none := make([][]int, 10)
	check(t, g, api.Part{}, api.Plan{Turn: none})
	check(t, g, api.Part{V: []int{}, E: []int{}}, api.Plan{Turn: [][]int{{}, nil, {}, nil, {}, nil, {}, nil, {}, nil}, Same: [][]int{}})
	check(t, g, api.Part{V: []int{7}}, api.Plan{Turn: none})
	check(t, g, api.Part{V: []int{4, 7}}, api.Plan{Turn: none, Same: [][]int{{-8, -5}}})
	check(t, g, api.Part{V: sample.UpTo(10)}, api.Plan{Turn: none, Same: [][]int{{-10, -9, -8, -7, -6, -5, -4, -3, -2, -1}}})
	// In one piece: the two edges between 0 and 1, a loop, and the bridge.
	check(t, g, api.Part{V: []int{0, 1}, E: []int{0, 3, 4}}, api.Plan{Turn: [][]int{{9, 0, 6, 7}, {1, 8}, 9: nil}})
	check(t, g, api.Part{V: []int{2, 3}, E: []int{5}}, api.Plan{Turn: [][]int{2: {10}, 3: {11}, 9: nil}})
	check(t, api.Graph{}, api.Part{}, api.Plan{})
	check(t, api.Graph{E: []api.Edge{}}, api.Part{V: []int{}, E: []int{}}, api.Plan{Turn: [][]int{}, Same: [][]int{}})
	check(t, api.Graph{N: 1}, api.Part{V: []int{0}}, api.Plan{Turn: [][]int{nil}})
	check(t, api.Graph{N: 2}, api.Part{V: []int{0, 1}}, api.Plan{Turn: [][]int{nil, nil}, Same: [][]int{{-2, -1}}})
	checkWrong(t, api.Graph{N: 2}, api.Part{V: []int{0, 1}}, api.Plan{Turn: [][]int{nil, nil}}, api.ErrGroup)
}

func TestNoGroups(t *testing.T) {
	g := sample.Mixed()
	p := graph.Whole(g)
	for name, same := range map[string][][]int{
		"no lists":                      nil,
		"an empty list":                 {{}, {-10, 3, 12}, {-8, 14}, {-5, 1}, {6, 15}},
		"an empty one behind":           {{-10, 3, 12}, {-8, 14}, {-5, 1}, {6, 15}, nil},
		"a list of one":                 {{-10, 3, 12}, {-8, 14}, {-5, 1}, {0}, {6, 15}},
		"all alone":                     {{-10}, {-8}, {-5}, {0}, {1}, {3}, {6}, {12}, {14}, {15}, {16}},
		"that doesn't rise":             {{-10, 12, 3}, {-8, 14}, {-5, 1}, {6, 15}},
		"whose first is the greatest":   {{3, -10, 12}, {-8, 14}, {-5, 1}, {6, 15}},
		"whose last one doesn't rise":   {{-10, 3, 12}, {-8, 14}, {-5, 1}, {15, 6}},
		"a key twice":                   {{-10, 3, 12}, {-8, 14}, {-5, 1, 1}, {6, 15}},
		"its first key twice":           {{-10, -10, 3, 12}, {-8, 14}, {-5, 1}, {6, 15}},
		"a key of two lists":            {{-10, 3, 12}, {-8, 14}, {-5, 3}, {6, 15}},
		"their first key":               {{-10, 3}, {-10, 12}, {-8, 14}, {-5, 1}, {6, 15}},
		"a dart that is no key":         {{-10, 3, 13}, {-8, 14}, {-5, 1}, {6, 15}},
		"another dart of a walk":        {{-10, 2, 12}, {-8, 14}, {-5, 1}, {6, 15}},
		"a vertex with darts":           {{-10, -1, 12}, {-8, 14}, {-5, 1}, {6, 15}},
		"a vertex beyond":               {{-11, 3, 12}, {-8, 14}, {-5, 1}, {6, 15}},
		"a dart beyond":                 {{-10, 3, 18}, {-8, 14}, {-5, 1}, {6, 15}},
		"the greatest number":           {{-10, 3, 12}, {-8, 14}, {-5, 1}, {6, greatest}},
		"the least number":              {{least, 3, 12}, {-8, 14}, {-5, 1}, {6, 15}},
		"lists in another order":        {{-8, 14}, {-10, 3, 12}, {-5, 1}, {6, 15}},
		"the last two the other way":    {{-10, 3, 12}, {-8, 14}, {6, 15}, {-5, 1}},
		"two walks of one piece":        {{-10, 3, 12}, {-8, 14}, {-5, 1}, {0, 6, 15}},
		"two of it in a list of theirs": {{-10, 3, 12}, {-8, 14}, {-5, 1}, {0, 6}, {14, 15}},
		"two of it, and all else":       {{-10, 3, 12}, {-8, 14}, {-5, 1}, {0, 16}, {6, 15}},
		"two pieces, in two ways":       {{-10, 3, 12}, {-8, 14}, {-5, 1}, {0, 15}, {6, 16}},
		"in a round of three":           {{-10, 3, 12}, {-8, 14}, {-5, 0}, {1, 15}, {6, 16}},
		"a piece that nothing joins":    {{-10, 3, 12}, {-8, 14}, {6, 15}},
		"halves that nothing joins":     {{-10, 3, 12}, {-8, 14}, {-5, 1}},
		"one list less":                 {{-8, 14}, {-5, 1}, {6, 15}},
		"a shorter list":                {{-10, 3}, {-8, 14}, {-5, 1}, {6, 15}},
		"the same lists twice":          {{-10, 3, 12}, {-10, 3, 12}, {-8, 14}, {-8, 14}, {-5, 1}, {-5, 1}, {6, 15}, {6, 15}},
		"as many as there may be":       {{-10, 3, 12}, {-8, 14}, {-5, 1}, {6, 14}},
		"all walks":                     {{-10, -8, -5, 0, 1, 3, 6, 12, 14, 15, 16}},
		"a great list":                  {make([]int, 1<<18)},
		"a great list of numbers":       {sample.UpTo(1 << 18)},
		"many lists":                    make([][]int, 1<<18),
	} {
		for i := range 3 {
			if e := Right(g, p, api.Plan{Turn: sample.Turned(mixedTurn(), i), Same: same}); e != api.ErrGroup {
				t.Errorf("%s: Right: %d", name, e)
			}
		}
		checkWrong(t, g, p, api.Plan{Turn: mixedTurn(), Same: same}, api.ErrGroup)
	}
}

// A part in one piece, or in none, has no lists.
func TestNoGroupsOfOnePiece(t *testing.T) {
	triangle := sample.Ring(3)
	turn := [][]int{{0, 5}, {2, 1}, {4, 3}}
	check(t, triangle, graph.Whole(triangle), api.Plan{Turn: turn})
	for _, same := range [][][]int{{{0, 1}}, {{0}}, {{1}}, {{}}, {nil}, {{0, 0}}, {{-1, 0}}, {{1, 0}}, {{0}, {1}}} {
		checkWrong(t, triangle, graph.Whole(triangle), api.Plan{Turn: turn, Same: same}, api.ErrGroup)
		checkWrong(t, triangle, api.Part{}, api.Plan{Turn: make([][]int, 3), Same: same}, api.ErrGroup)
		checkWrong(t, triangle, api.Part{V: []int{0}}, api.Plan{Turn: make([][]int, 3), Same: same}, api.ErrGroup)
		checkWrong(t, api.Graph{}, api.Part{}, api.Plan{Same: same}, api.ErrGroup)
	}
}

// Promises 8.1, 8.2 and 8.3: which of several errors comes first.

// groups answers lists that are right for mixedPlan, and some that aren't for any.
func groups() [][][]int {
	return [][][]int{mixedPlan().Same, nil, {{}}, {{0}}, {{0, 0}}, {{least, greatest}}}
}

func TestTurnsAheadOfGroups(t *testing.T) {
	g := sample.Mixed()
	p := graph.Whole(g)
	right := mixedTurn()
	crossed := mixedTurn()
	crossed[8] = []int{14, 16, 15, 17}
	turns := [][][]int{nil, {}, make([][]int, 10), right[:9], right[1:], append(mixedTurn(), nil), append(crossed, nil)}
	for v, l := range right {
		for i := range l {
			for _, d := range []int{l[i] ^ 1, 18, -1, -1 - v, least, greatest} {
				turn := mixedTurn()
				turn[v][i] = d
				turns = append(turns, turn)
			}
		}
	}
	for _, same := range groups() {
		for _, turn := range turns {
			checkWrong(t, g, p, api.Plan{Turn: turn, Same: same}, api.ErrTurn)
		}
		checkWrong(t, g, api.Part{}, api.Plan{Turn: right, Same: same}, api.ErrTurn)
		checkWrong(t, g, api.Part{V: []int{4}}, api.Plan{Turn: right, Same: same}, api.ErrTurn)
	}
	for _, turn := range turns {
		checkLone(t, g, p, turn, api.ErrTurn)
	}
	checkLone(t, g, api.Part{}, right, api.ErrTurn)
	checkLone(t, api.Graph{}, api.Part{}, [][]int{nil}, api.ErrTurn)
	checkLone(t, api.Graph{N: 1}, api.Part{}, nil, api.ErrTurn)
}

func TestGenusAheadOfGroups(t *testing.T) {
	g := sample.Mixed()
	p := graph.Whole(g)
	for v, l := range map[int][]int{0: {0, 6, 5, 7, 9}, 2: {10, 3, 4}, 8: {14, 16, 15, 17}} {
		turn := mixedTurn()
		turn[v] = l
		if v == 2 {
			// A bridge goes anywhere: the edges of the triangle leave out of the loop.
			turn[0] = []int{0, 6, 5, 7, 9}
		}
		for _, same := range groups() {
			checkWrong(t, g, p, api.Plan{Turn: turn, Same: same}, api.ErrGenus)
		}
		// It is ahead of ErrSplit, too.
		checkLone(t, g, p, turn, api.ErrGenus)
	}
	bundle := sample.Bundle(3)
	for _, same := range [][][]int{nil, {{0}}, {{0, 1}}} {
		checkWrong(t, bundle, graph.Whole(bundle), api.Plan{Turn: [][]int{{0, 2, 4}, {1, 3, 5}}, Same: same}, api.ErrGenus)
	}
	checkLone(t, bundle, graph.Whole(bundle), [][]int{{0, 2, 4}, {1, 3, 5}}, api.ErrGenus)
	checkLone(t, bundle, graph.Whole(bundle), [][]int{{4, 0, 2}, {3, 1, 5}}, api.OK)
}

func TestPartsAndGraphsAheadOfTurns(t *testing.T) {
	g := sample.Mixed()
	crossed := mixedTurn()
	crossed[8] = []int{14, 16, 15, 17}
	turns := [][][]int{mixedTurn(), crossed, nil, {{0}}, make([][]int, 10)}
	for _, turn := range turns {
		for _, same := range groups() {
			x := api.Plan{Turn: turn, Same: same}
			for _, p := range sample.WrongParts(g) {
				checkWrong(t, g, p, x, api.ErrPart)
				checkLone(t, g, p, turn, api.ErrPart)
			}
		}
		for _, c := range sample.WrongGraphs() {
			for _, p := range []api.Part{{}, {V: []int{0}}, {V: []int{1, 0}}, {E: []int{-1}}} {
				checkWrong(t, c.G, p, api.Plan{Turn: turn, Same: mixedPlan().Same}, c.Want)
				checkLone(t, c.G, p, turn, c.Want)
			}
		}
	}
}

// Promise 8.1: Clean, Same.

// plansOfAllKinds answers plans that are right and such as aren't, no two of them alike once they are clean.
func plansOfAllKinds() []api.Plan {
	crossed := mixedTurn()
	crossed[8] = []int{14, 16, 15, 17}
	return []api.Plan{
		{}, mixedPlan(), {Turn: mixedTurn()}, {Turn: crossed}, {Same: mixedPlan().Same},
		{Turn: mixedTurn(), Same: [][]int{{-8, 14}, {-10, 3, 12}, {-5, 1}, {6, 15}}},
		{Turn: mixedTurn(), Same: [][]int{{-10, 12, 3}, {-8, 14}, {-5, 1}, {6, 15}}},
		{Turn: sample.About(mixedTurn()), Same: mixedPlan().Same},
		{Turn: [][]int{nil}}, {Turn: [][]int{nil, nil}}, {Turn: [][]int{{0}}}, {Turn: [][]int{{0}, nil}}, {Turn: [][]int{nil, {0}}}, {Turn: [][]int{{0}, {0}}},
		{Turn: [][]int{{0, 1}}}, {Turn: [][]int{{0, 1}, {2}}}, {Turn: [][]int{{0, 1, 2}}}, {Turn: [][]int{{0, 2, 1}}}, {Turn: [][]int{{0}, {1, 2}}},
		// A dart several times: begun with the first of the least, what is one ring needn't be alike.
		{Turn: [][]int{{0, 0}}}, {Turn: [][]int{{0, 0, 0}}}, {Turn: [][]int{{0, 1, 0, 2}}}, {Turn: [][]int{{0, 2, 0, 1}}}, {Turn: [][]int{{0, 0, 1}}}, {Turn: [][]int{{0, 1, 0}}},
		{Turn: [][]int{{-3, 4, -3, -2}}}, {Turn: [][]int{{least, greatest}}}, {Turn: [][]int{{least, least, greatest}}}, {Turn: [][]int{{greatest}}},
		{Same: [][]int{nil}}, {Same: [][]int{nil, nil}}, {Same: [][]int{{0}}}, {Same: [][]int{{0, 1}}}, {Same: [][]int{{1, 0}}}, {Same: [][]int{{0, 0}}}, {Same: [][]int{{0}, {1}}},
		{Same: [][]int{{0, 1}, {2, 3}}}, {Same: [][]int{{2, 3}, {0, 1}}}, {Same: [][]int{{0, 1, 2, 3}}}, {Same: [][]int{{0, 1}, {2}}}, {Same: [][]int{{least, greatest}}},
		{Turn: [][]int{{0, 1}}, Same: [][]int{{0, 1}}},
	}
}

func TestCleanAndSame(t *testing.T) {
	all := plansOfAllKinds()
	for i, a := range all {
		checkClean(t, a)
		for j, b := range all {
			if Same(a, b) != (i == j) {
				t.Errorf("Same of %v, %v: %v", a, b, i != j)
			}
		}
	}
	// Lists without elements are one, nil or not.
	empty := api.Plan{Turn: [][]int{}, Same: [][]int{}}
	if !Same(empty, api.Plan{}) || !Same(api.Plan{}, empty) || !isNone(Clean(empty)) {
		t.Errorf("Same of empty lists, and none")
	}
	if a, b := (api.Plan{Turn: [][]int{{}, nil}, Same: [][]int{nil}}), (api.Plan{Turn: [][]int{nil, {}}, Same: [][]int{{}}}); !Same(a, b) || !Same(b, a) {
		t.Errorf("Same of lists with empty lists, and with none")
	}
}

func TestCleanOfLists(t *testing.T) {
	for _, c := range []struct{ l, want []int }{
		{nil, nil}, {[]int{5}, []int{5}}, {[]int{5, 3}, []int{3, 5}}, {[]int{3, 5, 4}, []int{3, 5, 4}}, {[]int{4, 3, 5}, []int{3, 5, 4}}, {[]int{5, 4, 3}, []int{3, 5, 4}},
		{[]int{7, 1, 9, 1, 8}, []int{1, 9, 1, 8, 7}}, {[]int{1, 9, 1, 8}, []int{1, 9, 1, 8}}, {[]int{9, 1, 1}, []int{1, 1, 9}},
		{[]int{0, -1, greatest, least, 2}, []int{least, 2, 0, -1, greatest}},
	} {
		for _, same := range [][][]int{nil, {c.l}, {c.l, {3, 1, 2}, nil, c.l}} {
			x := Clean(api.Plan{Turn: [][]int{c.l, nil, c.l}, Same: same})
			if !areAlike(x.Turn, [][]int{c.want, nil, c.want}) || !areAlike(x.Same, same) {
				t.Errorf("Clean of %v, %v: %v", c.l, same, x)
			}
		}
	}
}

func TestSameOfTurned(t *testing.T) {
	for i := range 7 {
		x := mixedPlan()
		x.Turn = sample.Turned(x.Turn, i)
		if !Same(x, mixedPlan()) || !Same(mixedPlan(), x) {
			t.Errorf("Same of %v, turned by %d", x, i)
		}
		for v := range x.Turn {
			// The lists behind the first that is turned count, too.
			other := api.Plan{Turn: sample.Turned(x.Turn, 2), Same: x.Same}
			other.Turn[v] = append([]int{99}, other.Turn[v]...)
			if Same(x, other) || Same(other, x) {
				t.Errorf("Same of %v, %v", x, other)
			}
		}
		for j := range x.Same {
			other := mixedPlan()
			other.Same[j][1]++
			if Same(x, other) || Same(other, x) {
				t.Errorf("Same of %v, %v", x, other)
			}
		}
	}
}

func TestSameOfAllDrawings(t *testing.T) {
	for _, g := range []api.Graph{{N: 3, E: sample.Loops(1)}, {N: 2, E: sample.Loops(2)}, {N: 3, E: sample.Edges(0, 1, 1, 2, 1, 1)}, {N: 2, E: sample.Edges(0, 0, 1, 1)}} {
		all := sample.Drawings(g, graph.Whole(g))
		for i, a := range all {
			for j, b := range all {
				a.Turn = sample.Turned(a.Turn, i)
				if Same(a, b) != (i == j) || i == j != isOne(a, b) {
					t.Fatalf("Same of %v, %v: %v", a, b, i != j)
				}
			}
		}
	}
}

// Promise 8.2: Regions, Region.

func TestRegions(t *testing.T) {
	g := sample.Mixed()
	want := [][]int{{-10, 3, 12}, {-8, 14}, {-5, 1}, {0}, {6, 15}, {16}}
	numbers := map[int]int{-10: 0, 3: 0, 12: 0, -8: 1, 14: 1, -5: 2, 1: 2, 0: 3, 6: 4, 15: 4, 16: 5}
	for i := range 5 {
		x := mixedPlan()
		x.Turn = sample.Turned(x.Turn, i)
		regions, e := Regions(g, graph.Whole(g), x)
		if e != api.OK || !areAlike(regions, want) {
			t.Errorf("Regions: %v, %d", regions, e)
		}
		// Darts that aren't keys, vertices with darts, and what is none of both have no region.
		for _, key := range append(sample.UpTo(30), -1, -2, -3, -4, -5, -6, -7, -8, -9, -10, -11, -12, 2047, 2048, -1025, least, least+1, greatest, greatest-1) {
			at, is := numbers[key]
			if i, ok := Region(g, graph.Whole(g), x, key); i != at || ok != is {
				t.Errorf("Region of %d: %d, %v", key, i, ok)
			}
		}
	}
	for _, key := range []int{0, -1, -10, least, greatest} {
		if i, ok := Region(g, api.Part{}, api.Plan{Turn: make([][]int, 10)}, key); i != 0 || ok {
			t.Errorf("Region of nothing, %d: %d, %v", key, i, ok)
		}
		if i, ok := Region(api.Graph{}, api.Part{}, api.Plan{}, key); i != 0 || ok {
			t.Errorf("Region of no graph, %d: %d, %v", key, i, ok)
		}
	}
}

func TestRegionsOfPlainGraphs(t *testing.T) {
	for name, c := range map[string]struct {
		g    api.Graph
		x    api.Plan
		want [][]int
	}{
		"nothing":       {api.Graph{}, api.Plan{}, nil},
		"a vertex":      {api.Graph{N: 1}, api.Plan{Turn: [][]int{nil}}, [][]int{{-1}}},
		"two vertices":  {api.Graph{N: 2}, api.Plan{Turn: [][]int{nil, nil}, Same: [][]int{{-2, -1}}}, [][]int{{-2, -1}}},
		"a loop":        {api.Graph{N: 1, E: sample.Loops(1)}, api.Plan{Turn: [][]int{{1, 0}}}, [][]int{{0}, {1}}},
		"a bridge":      {api.Graph{N: 2, E: sample.Edges(1, 0)}, api.Plan{Turn: [][]int{{1}, {0}}}, [][]int{{0}}},
		"a bundle":      {sample.Bundle(3), api.Plan{Turn: [][]int{{2, 4, 0}, {5, 3, 1}}}, [][]int{{0}, {1}, {2}}},
		"two loops":     {api.Graph{N: 2, E: sample.Edges(0, 0, 1, 1)}, api.Plan{Turn: [][]int{{0, 1}, {2, 3}}, Same: [][]int{{1, 2}}}, [][]int{{0}, {1, 2}, {3}}},
		"one in one":    {api.Graph{N: 3, E: sample.Edges(0, 0, 1, 1)}, api.Plan{Turn: [][]int{{0, 1}, {2, 3}, nil}, Same: [][]int{{-3, 3}, {0, 2}}}, [][]int{{-3, 3}, {0, 2}, {1}}},
		"all in one":    {api.Graph{N: 3, E: sample.Edges(0, 0, 1, 1)}, api.Plan{Turn: [][]int{{0, 1}, {2, 3}, nil}, Same: [][]int{{-3, 1, 3}}}, [][]int{{-3, 1, 3}, {0}, {2}}},
		"in a row":      {api.Graph{N: 3, E: sample.Edges(0, 0, 1, 1, 2, 2)}, api.Plan{Turn: [][]int{{0, 1}, {2, 3}, {4, 5}}, Same: [][]int{{0, 5}, {2, 4}}}, [][]int{{0, 5}, {1}, {2, 4}, {3}}},
		"two and a way": {api.Graph{N: 4, E: sample.Edges(3, 1, 0, 0)}, api.Plan{Turn: [][]int{{2, 3}, {1}, nil, {0}}, Same: [][]int{{-3, 0, 2}}}, [][]int{{-3, 0, 2}, {3}}},
	} {
		regions, e := Regions(c.g, graph.Whole(c.g), c.x)
		if e != api.OK || !areAlike(regions, c.want) {
			t.Errorf("%s: Regions: %v, %d", name, regions, e)
		}
		check(t, c.g, graph.Whole(c.g), c.x)
	}
}

// Promise 8.2: Mirror.

func TestMirror(t *testing.T) {
	g := sample.Mixed()
	want := api.Plan{
		Turn: [][]int{{0, 9, 7, 6, 5}, {1, 2, 8}, {3, 4, 10}, {11}, nil, {12}, {13}, nil, {14, 17, 16, 15}, nil},
		// What has 3 8 7 5 10 11 here has 2 9 6 4 11 10 there; 15 has 14 there, and 14 has 15.
		Same: [][]int{{-10, 2, 12}, {-8, 15}, {-5, 0}, {7, 14}},
	}
	for i := range 60 {
		x := mixedPlan()
		x.Turn = sample.Turned(x.Turn, i)
		if m, e := Mirror(g, graph.Whole(g), x); e != api.OK || !areAlike(m.Turn, want.Turn) || !areAlike(m.Same, want.Same) {
			t.Errorf("Mirror of %v: %v, %d", x, m, e)
		}
	}
}

func TestMirrorPutsListsInOrder(t *testing.T) {
	// The lists' first keys come the other way round.
	g := api.Graph{N: 4, E: sample.Edges(0, 0, 1, 1, 2, 2, 3, 3)}
	turn := [][]int{{0, 1}, {2, 3}, {4, 5}, {6, 7}}
	for _, c := range []struct{ same, want [][]int }{
		{[][]int{{0, 2}, {1, 4, 6}}, [][]int{{0, 5, 7}, {1, 3}}},
		{[][]int{{0, 7}, {1, 2}, {3, 4}}, [][]int{{0, 3}, {1, 6}, {2, 5}}},
		{[][]int{{0, 3, 4, 7}}, [][]int{{1, 2, 5, 6}}},
	} {
		m, e := Mirror(g, graph.Whole(g), api.Plan{Turn: turn, Same: c.same})
		if e != api.OK || !areAlike(m.Turn, turn) || !areAlike(m.Same, c.want) {
			t.Errorf("Mirror of %v: %v, %d", c.same, m, e)
		}
		check(t, g, graph.Whole(g), api.Plan{Turn: turn, Same: c.same})
	}
	// A walk of twins has the same key there, the other ones haven't.
	g = api.Graph{N: 4, E: sample.Edges(1, 2, 2, 1, 0, 3)}
	turn = [][]int{{4}, {0, 3}, {2, 1}, {5}}
	for _, same := range [][][]int{{{0, 4}}, {{1, 4}}} {
		check(t, g, graph.Whole(g), api.Plan{Turn: turn, Same: same})
	}
}

// Promise 8.3: Lone.

func TestLone(t *testing.T) {
	g := sample.Mixed()
	none := make([][]int, 10)
	checkLone(t, api.Graph{}, api.Part{}, nil, api.OK)
	checkLone(t, g, api.Part{}, none, api.OK)
	checkLone(t, g, api.Part{V: []int{9}, E: []int{}}, none, api.OK)
	checkLone(t, g, api.Part{V: []int{4, 9}}, none, api.ErrSplit)
	checkLone(t, g, api.Part{V: sample.UpTo(10)}, none, api.ErrSplit)
	checkLone(t, g, graph.Whole(g), mixedTurn(), api.ErrSplit)
	for i := range 60 {
		turn := [][]int{{0, 5, 6, 7, 9}, {2, 1, 8}, {10, 4, 3}, {11}, 9: nil}
		checkLone(t, g, api.Part{V: []int{0, 1, 2, 3}, E: sample.UpTo(6)}, sample.Turned(turn, i), api.OK)
		checkLone(t, g, api.Part{V: []int{0, 1, 2, 3, 4}, E: sample.UpTo(6)}, sample.Turned(turn, i), api.ErrSplit)
		checkLone(t, g, api.Part{V: []int{8}, E: []int{7, 8}}, sample.Turned([][]int{8: {15, 16, 17, 14}, 9: nil}, i), api.OK)
		checkLone(t, g, api.Part{V: []int{8}, E: []int{7, 8}}, sample.Turned([][]int{8: {15, 16, 14, 17}, 9: nil}, i), api.ErrGenus)
	}
	x, e := Lone(g, api.Part{V: []int{2, 3}, E: []int{5}}, [][]int{2: {10}, 3: {11}, 9: nil})
	if e != api.OK || len(x.Turn) != 10 || len(x.Same) > 0 || Right(g, api.Part{V: []int{2, 3}, E: []int{5}}, x) != api.OK {
		t.Errorf("Lone of a bridge: %v, %d", x, e)
	}
}

// All promises, of great drawings.

func TestGreatDrawings(t *testing.T) {
	loops := api.Graph{N: 512}
	x := api.Plan{}
	for v := range 512 {
		loops.E = append(loops.E, api.Edge{A: v, B: v})
		x.Turn = append(x.Turn, []int{2*v + 1, 2 * v})
		if v > 0 {
			x.Same = append(x.Same, []int{2*v - 1, 2 * v})
		}
	}
	p := graph.Whole(loops)
	regions, e := Regions(loops, p, x)
	if e != api.OK || len(regions) != 513 {
		t.Errorf("Regions: %d, %d", len(regions), e)
	}
	// Each loop is about the one ahead of it: about, too, the other way round.
	m, e := Mirror(loops, p, x)
	if e != api.OK || len(m.Same) != 511 || !slices.Equal(m.Same[0], []int{0, 3}) || !slices.Equal(m.Same[510], []int{1020, 1023}) {
		t.Errorf("Mirror: %v, %d", m.Same, e)
	}
	if again, e := Mirror(loops, p, m); e != api.OK || !isClean(again, x) {
		t.Errorf("mirrored twice: %d", e)
	}
	for _, same := range [][][]int{x.Same[1:], x.Same[:510], append(slices.Clone(x.Same), []int{1023, 1023}), append([][]int{{0, 1023}}, x.Same...)} {
		checkWrong(t, loops, p, api.Plan{Turn: x.Turn, Same: same}, api.ErrGroup)
	}
}

func TestGreatRegions(t *testing.T) {
	g := api.Graph{N: 1024}
	all := make([]int, 1024)
	for i := range all {
		all[i] = i - 1024
	}
	x := api.Plan{Turn: make([][]int, 1024), Same: [][]int{all}}
	regions, e := Regions(g, graph.Whole(g), x)
	if e != api.OK || !areAlike(regions, x.Same) {
		t.Errorf("Regions: %v, %d", regions, e)
	}
	if m, e := Mirror(g, graph.Whole(g), x); e != api.OK || !isClean(m, x) {
		t.Errorf("Mirror: %d", e)
	}
	checkWrong(t, g, graph.Whole(g), api.Plan{Turn: x.Turn, Same: [][]int{all[1:]}}, api.ErrGroup)
	checkLone(t, g, graph.Whole(g), x.Turn, api.ErrSplit)
	for name, g := range map[string]api.Graph{"loops": {N: 1, E: sample.Loops(1023)}, "ring": sample.Ring(512), "star": sample.Star(512)} {
		p := graph.Whole(g)
		turn := sample.Mingled(g)
		if name == "loops" {
			turn = [][]int{sample.UpTo(2046)}
		}
		checkLone(t, g, p, turn, api.OK)
		regions, e := Regions(g, p, api.Plan{Turn: turn})
		if e != api.OK || g.N-len(g.E)+len(regions) != 2 {
			t.Errorf("%s: %d regions, %d", name, len(regions), e)
		}
	}
}

// All promises: nothing that is handed in changes or is kept, nothing that is handed out is shared.

// told answers all lists that are told of a plan. What holds these is written over: if it is shared, the lists that were handed in show it.
func told(g api.Graph, p api.Part, x api.Plan) [][]int {
	Right(g, p, x)
	Same(x, x)
	Region(g, p, x, 0)
	c := Clean(x)
	regions, _ := Regions(g, p, x)
	m, _ := Mirror(g, p, x)
	l, _ := Lone(g, p, x.Turn)
	var lists [][]int
	for _, table := range [][][]int{c.Turn, c.Same, regions, m.Turn, m.Same, l.Turn} {
		lists = append(lists, sample.Taken(table)...)
	}
	return lists
}

// checkFault tells what is shared, or changed, of a plan.
func checkFault(t *testing.T, g api.Graph, p api.Part, x api.Plan) {
	t.Helper()
	room := &sample.Room{}
	laidGraph, laidPart, laid := room.Graph(g), room.Part(p), room.Plan(x)
	if err := room.Fault(func() [][]int { return told(laidGraph, laidPart, laid) }); err != nil {
		t.Fatalf("%v, %v, %v: %v", g, p, x, err)
	}
}

func TestNothingIsChangedOrShared(t *testing.T) {
	for i, c := range sample.AllTurns(append(sample.Graphs(2, 2), api.Graph{N: 3, E: sample.Edges(0, 0, 1, 1)})) {
		turn := sample.Turned(c.Turn, i+1)
		checkFault(t, c.G, c.P, api.Plan{Turn: turn, Same: [][]int{{0, 1}, nil, {-1}}})
		for _, regions := range sample.Hangings(c.G, c.P, turn) {
			checkFault(t, c.G, c.P, api.Plan{Turn: turn, Same: sample.Together(regions)})
		}
	}
	g := sample.Mixed()
	checkFault(t, g, graph.Whole(g), mixedPlan())
	for _, x := range plansOfAllKinds() {
		checkFault(t, g, graph.Whole(g), x)
	}
}

func TestNoListOfAPlanIsShared(t *testing.T) {
	// One list stands in several places of what is handed in.
	l := []int{2, 1}
	c := Clean(api.Plan{Turn: [][]int{l, l}, Same: [][]int{l, l}})
	c.Turn[0][0], c.Same[0][0] = 7, 8
	if l[0] != 2 || c.Turn[1][0] != 1 || c.Same[1][0] != 2 {
		t.Errorf("Clean shares: %v, %v", l, c)
	}
}

func TestWhatIsWrittenIsntSeen(t *testing.T) {
	g := sample.Mixed()
	p := graph.Whole(g)
	regions, _ := Regions(g, p, mixedPlan())
	m, _ := Mirror(g, p, mixedPlan())
	c := Clean(mixedPlan())
	part := api.Part{V: []int{2, 3}, E: []int{5}}
	turn := [][]int{2: {10}, 3: {11}, 9: nil}
	l, _ := Lone(g, part, turn)
	for _, table := range [][][]int{regions, m.Turn, m.Same, c.Turn, c.Same, l.Turn} {
		for _, list := range sample.Taken(table) {
			for i := range list {
				list[i] = -7
			}
		}
	}
	check(t, g, p, mixedPlan())
	checkLone(t, g, part, turn, api.OK)
	if at, ok := Region(g, p, mixedPlan(), 15); at != 4 || !ok {
		t.Errorf("Region: %d, %v", at, ok)
	}
}
