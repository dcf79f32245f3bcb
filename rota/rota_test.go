package rota

import (
	"math"
	"slices"
	"testing"

	"tracery/api"
	"tracery/graph"
	"tracery/sample"
)

const (
	least    = math.MinInt
	greatest = math.MaxInt
)

// The plain second way: the lists themselves are gone through.

// areTurnsOf tells whether lists are turns of a right part.
func areTurnsOf(g api.Graph, p api.Part, turn [][]int) bool {
	if len(turn) != g.N {
		return false
	}
	for v, l := range turn {
		if !slices.Equal(slices.Sorted(slices.Values(l)), sample.Leaving(g, p, v)) {
			return false
		}
	}
	return true
}

// fourOf answers all that is told of a dart: After, Before, Next, Back; false, if it is no dart of theirs. They are of one mind about that.
func fourOf(t *testing.T, r *Rota, d int) ([4]int, bool) {
	t.Helper()
	after, ok := r.After(d)
	before, okBefore := r.Before(d)
	next, okNext := r.Next(d)
	back, okBack := r.Back(d)
	four := [4]int{after, before, next, back}
	if ok != okBefore || ok != okNext || ok != okBack || !ok && four != [4]int{} {
		t.Fatalf("of %d: %v, %v, %v, %v, %v", d, four, ok, okBefore, okNext, okBack)
	}
	return four, ok
}

// checkTurns holds what is told of turns against the lists, each begun with its least dart.
func checkTurns(t *testing.T, g api.Graph, p api.Part, r *Rota, turn [][]int) {
	t.Helper()
	for d := -3; d <= 2*len(g.E)+1; d++ {
		four, ok := fourOf(t, r, d)
		if ok != (d >= 0 && slices.Contains(p.E, d/2)) {
			t.Fatalf("%v, %v: %v: %d: %v, %v", g, p, turn, d, four, ok)
		}
		if !ok {
			continue
		}
		twin := 2*(d/2) + 1 - d%2
		behind := sample.IsBehind(turn, four[0], d) && sample.IsBehind(turn, d, four[1])
		// Around faces: ahead of d's twin stands Next, and ahead of the twin of Back stands d.
		backsTwin := 2*(four[3]/2) + 1 - four[3]%2
		if !behind || !sample.IsBehind(turn, twin, four[2]) || !sample.IsBehind(turn, backsTwin, d) {
			t.Fatalf("%v, %v: %v: %d: %v", g, p, turn, d, four)
		}
	}
	for v := -2; v <= g.N+1; v++ {
		var want []int
		if v >= 0 && v < g.N {
			want = turn[v]
		}
		if !slices.Equal(r.At(v), want) {
			t.Fatalf("%v, %v: %v: At(%d): %v", g, p, turn, v, r.At(v))
		}
	}
	if !slices.EqualFunc(r.Turn(), turn, slices.Equal) {
		t.Fatalf("%v, %v: %v: Turn: %v", g, p, turn, r.Turn())
	}
	var darts []int
	for _, e := range p.E {
		darts = append(darts, 2*e, 2*e+1)
	}
	if !slices.Equal(slices.Collect(r.Darts()), darts) {
		t.Fatalf("%v, %v: %v: Darts: %v", g, p, turn, slices.Collect(r.Darts()))
	}
}

// checkUndone holds what undoes what against each other: promise 6.3.
func checkUndone(t *testing.T, r *Rota) {
	t.Helper()
	mirror := r.Mirror()
	for d := range r.Darts() {
		four, ok := fourOf(t, r, d)
		after, _ := r.Before(four[0])
		before, _ := r.After(four[1])
		next, _ := r.Back(four[2])
		back, _ := r.Next(four[3])
		if !ok || [4]int{after, before, next, back} != [4]int{d, d, d, d} {
			t.Fatalf("%v: %d: %v, and back: %d, %d, %d, %d", r.Turn(), d, four, after, before, next, back)
		}
		mirrored, ok := mirror.Next(d)
		ofTwin, _ := r.Back(d ^ 1)
		if !ok || mirrored != ofTwin^1 {
			t.Fatalf("%v: Next(%d), mirrored: %d, and Back of the twin: %d", r.Turn(), d, mirrored, ofTwin)
		}
	}
	again := mirror.Mirror()
	if !slices.EqualFunc(again.Turn(), r.Turn(), slices.Equal) {
		t.Fatalf("%v: mirrored twice: %v", r.Turn(), again.Turn())
	}
	for _, d := range append(slices.Collect(r.Darts()), -2, -1, 2*api.MaxSize) {
		four, ok := fourOf(t, r, d)
		if other, is := fourOf(t, again, d); other != four || is != ok {
			t.Fatalf("%v: %d: %v, and mirrored twice: %v", r.Turn(), d, four, other)
		}
	}
}

func TestSmallGraphs(t *testing.T) {
	for i, c := range sample.AllTurns(append(sample.Graphs(3, 2), sample.Graphs(2, 3)...)) {
		r, e := New(c.G, c.P, sample.Turned(c.Turn, i))
		if e != api.OK {
			t.Fatalf("%v, %v: New of %v: %d", c.G, c.P, sample.Turned(c.Turn, i), e)
		}
		checkTurns(t, c.G, c.P, r, c.Turn)
		checkTurns(t, c.G, c.P, r.Mirror(), sample.About(c.Turn))
		checkUndone(t, r)
	}
}

// cuts answers all ways to cut a list into so many lists.
func cuts(l []int, lists int) [][][]int {
	if lists == 0 {
		if len(l) == 0 {
			return [][][]int{nil}
		}
		return nil
	}
	var all [][][]int
	for i := range len(l) + 1 {
		for _, rest := range cuts(l[i:], lists-1) {
			all = append(all, append([][]int{l[:i]}, rest...))
		}
	}
	return all
}

func TestAllListsOfSmallGraphs(t *testing.T) {
	for _, c := range []struct{ vertices, edges, most int }{{0, 0, 2}, {1, 0, 2}, {2, 1, 4}, {3, 1, 3}, {1, 2, 5}, {2, 2, 4}} {
		for _, l := range sample.Lists(c.most, sample.UpTo(2*c.edges+2)...) {
			for i := range l {
				l[i]-- // from a dart too little to one too great
			}
			for n := range c.vertices + 2 {
				for _, turn := range cuts(l, n) {
					checkNew(t, c.vertices, c.edges, turn)
				}
			}
		}
	}
}

// checkNew holds which lists are taken against the second way, of some graphs of so many vertices and edges.
func checkNew(t *testing.T, vertices, edges int, turn [][]int) {
	t.Helper()
	for _, g := range []api.Graph{
		{N: vertices, E: sample.Loops(edges)},
		{N: vertices, E: sample.Edges(0, 1, 1, 0)[:min(edges, 2)]},
		{N: vertices, E: sample.Edges(1, 0, 1, 1)[:min(edges, 2)]},
	} {
		if graph.Right(g) != api.OK {
			continue
		}
		for _, p := range []api.Part{graph.Whole(g), {V: graph.Whole(g).V}, graph.Drop(graph.Whole(g), 0)} {
			want := api.ErrTurn
			if areTurnsOf(g, p, turn) {
				want = api.OK
			}
			if r, e := New(g, p, turn); e != want || (r == nil) != (want != api.OK) {
				t.Fatalf("%v, %v: New of %v: %d", g, p, turn, e)
			}
		}
	}
}

// A graph with what the chapter names: loops, several edges between the same ends, a vertex by itself, a vertex of a loop alone, a vertex with one dart.
//
//	0 -0- 1 -1- 2 -2- 0, 0 -3- 0, 1 -4- 0, 3, 4 -5- 4, 5 -6- 2
func mixed() api.Graph {
	return api.Graph{N: 6, E: sample.Edges(0, 1, 1, 2, 2, 0, 0, 0, 1, 0, 4, 4, 5, 2)}
}

// mixedTurn answers turns of all of mixed.
func mixedTurn() [][]int {
	return [][]int{{9, 6, 0, 7, 5}, {8, 1, 2}, {13, 4, 3}, {}, {11, 10}, {12}}
}

func mixedRota(t *testing.T) *Rota {
	t.Helper()
	r, e := New(mixed(), graph.Whole(mixed()), mixedTurn())
	if e != api.OK {
		t.Fatalf("New: %d", e)
	}
	return r
}

// Promise 6.1: New.

func TestNew(t *testing.T) {
	g := mixed()
	all := graph.Whole(g)
	for _, c := range []struct {
		g    api.Graph
		p    api.Part
		turn [][]int
	}{
		{g, all, mixedTurn()},
		{g, all, sample.Turned(mixedTurn(), 1)},
		{g, all, sample.About(mixedTurn())},
		{g, all, [][]int{{0, 5, 6, 7, 9}, {1, 2, 8}, {3, 4, 13}, nil, {10, 11}, {12}}},
		// Parts.
		{g, api.Part{V: []int{0, 1, 2, 4}, E: []int{1, 2, 4}}, [][]int{{5, 9}, {8, 2}, {4, 3}, nil, nil, nil}},
		{g, api.Part{V: []int{0}, E: []int{3}}, [][]int{{7, 6}, {}, {}, {}, {}, {}}},
		{g, api.Part{V: []int{2, 5}, E: []int{6}}, [][]int{nil, nil, {13}, nil, nil, {12}}},
		{g, api.Part{V: sample.UpTo(6)}, make([][]int, 6)},
		{g, api.Part{}, make([][]int, 6)},
		{g, api.Part{V: []int{}, E: []int{}}, [][]int{{}, nil, {}, nil, {}, nil}},
		// Nothing at all.
		{api.Graph{}, api.Part{}, nil},
		{api.Graph{E: []api.Edge{}}, api.Part{V: []int{}, E: []int{}}, [][]int{}},
		{api.Graph{N: 1}, api.Part{}, [][]int{nil}},
		{api.Graph{N: 1024}, api.Part{V: sample.UpTo(1024)}, make([][]int, 1024)},
	} {
		if r, e := New(c.g, c.p, c.turn); e != api.OK || r == nil {
			t.Errorf("New of %v, %v: %d", c.p, c.turn, e)
		}
	}
}

func checkNoTurns(t *testing.T, g api.Graph, p api.Part, turn [][]int, want api.Errno) {
	t.Helper()
	if r, e := New(g, p, turn); e != want || r != nil {
		t.Errorf("New of %v, %v: %v, %d, not %d", p, turn, r, e, want)
	}
}

func TestNewOfWrongLists(t *testing.T) {
	g := mixed()
	all := graph.Whole(g)
	right := mixedTurn()
	for _, turn := range [][][]int{
		nil, {}, make([][]int, 6), right[:5], right[:1], right[1:], append(mixedTurn(), nil), append(mixedTurn(), []int{0}), append(mixedTurn(), right...), append([][]int{nil}, right...),
		{slices.Concat(right...)}, {slices.Concat(right...), nil, nil, nil, nil, nil},
		make([][]int, 1<<18), {make([]int, 1<<18), nil, nil, nil, nil, nil},
	} {
		checkNoTurns(t, g, all, turn, api.ErrTurn)
	}
	// Any dart in any one's place: it stands twice, leaves another vertex, is none; and the one whose place it takes is missing.
	for v, l := range right {
		for i, old := range l {
			for _, d := range []int{0, 1, 2, 3, 4, 5, 6, 7, 8, 9, 10, 11, 12, 13, 14, 15, -1, -2, -14, least, least + 1, greatest, greatest - 1} {
				turn := mixedTurn()
				turn[v][i] = d
				if d != old {
					checkNoTurns(t, g, all, turn, api.ErrTurn)
				}
				turn[v] = slices.Insert(turn[v], i, old)
				checkNoTurns(t, g, all, turn, api.ErrTurn)
				turn[v] = append(slices.Clone(l), d)
				checkNoTurns(t, g, all, turn, api.ErrTurn)
			}
			turn := mixedTurn()
			turn[v] = slices.Delete(turn[v], i, i+1)
			checkNoTurns(t, g, all, turn, api.ErrTurn)
			turn[3] = []int{old}
			checkNoTurns(t, g, all, turn, api.ErrTurn)
		}
	}
	// Two darts of different vertices, or two lists, have changed places.
	for v := range right {
		for w := range v {
			turn := mixedTurn()
			turn[v], turn[w] = turn[w], turn[v]
			checkNoTurns(t, g, all, turn, api.ErrTurn)
			if turn = mixedTurn(); len(turn[v]) > 0 && len(turn[w]) > 0 {
				turn[v][0], turn[w][0] = turn[w][0], turn[v][0]
				checkNoTurns(t, g, all, turn, api.ErrTurn)
			}
		}
	}
}

func TestNewOfWhatIsntInThePart(t *testing.T) {
	g := mixed()
	// Right turns of all, of a part without one of the edges.
	for e := range g.E {
		checkNoTurns(t, g, graph.Drop(graph.Whole(g), e), mixedTurn(), api.ErrTurn)
	}
	// A list that isn't empty, of a vertex that isn't in the part.
	for _, l := range [][]int{{12}, {13}, {0}, {-1}, {14}, {5, 9}, {greatest}} {
		p := api.Part{V: []int{0, 1, 2}, E: []int{1, 2, 4}}
		turn := [][]int{{5, 9}, {8, 2}, {4, 3}, nil, nil, nil}
		if _, e := New(g, p, turn); e != api.OK {
			t.Fatalf("New: %d", e)
		}
		turn[5] = l
		checkNoTurns(t, g, p, turn, api.ErrTurn)
		checkNoTurns(t, g, api.Part{}, [][]int{nil, nil, nil, nil, nil, l}, api.ErrTurn)
	}
	for _, turn := range [][][]int{{nil}, {{0}}, {{}, {}}} {
		checkNoTurns(t, api.Graph{}, api.Part{}, turn, api.ErrTurn)
	}
}

func TestFirstErrors(t *testing.T) {
	g := mixed()
	turns := [][][]int{nil, mixedTurn(), {{0}}, {{-1}, nil, nil, nil, nil, nil}, make([][]int, 6)}
	for _, p := range sample.WrongParts(g) {
		for _, turn := range turns {
			checkNoTurns(t, g, p, turn, api.ErrPart)
		}
	}
	for _, c := range sample.WrongGraphs() {
		for _, p := range []api.Part{{}, {V: []int{0}}, {V: []int{1, 0}}, {E: []int{-1}}} {
			for _, turn := range turns {
				checkNoTurns(t, c.G, p, turn, c.Want)
			}
		}
	}
}

// Promise 6.1: After, Before, Next, Back.

func TestSteps(t *testing.T) {
	r := mixedRota(t)
	for d, want := range [][4]int{
		0: {7, 6, 8, 6}, 1: {2, 8, 6, 3}, 2: {8, 1, 4, 9}, 3: {13, 4, 1, 12},
		4: {3, 13, 7, 2}, 5: {9, 7, 13, 8}, 6: {0, 9, 0, 1}, 7: {5, 0, 9, 4},
		8: {1, 2, 5, 0}, 9: {6, 5, 2, 7}, 10: {11, 11, 10, 10}, 11: {10, 10, 11, 11},
		12: {12, 12, 3, 13}, 13: {4, 3, 12, 5},
	} {
		four, ok := fourOf(t, r, d)
		if !ok || four != want {
			t.Errorf("of %d: %v, %v, not %v", d, four, ok, want)
		}
	}
}

func TestStepsOfTheExample(t *testing.T) {
	g := api.Graph{N: 2, E: sample.Edges(0, 1, 0, 1)}
	for _, turn := range [][][]int{{{0, 2}, {1, 3}}, {{2, 0}, {3, 1}}} {
		r, e := New(g, graph.Whole(g), turn)
		if e != api.OK {
			t.Fatalf("New: %d", e)
		}
		for d, want := range [][4]int{{2, 2, 3, 3}, {3, 3, 2, 2}, {0, 0, 1, 1}, {1, 1, 0, 0}} {
			if four, ok := fourOf(t, r, d); !ok || four != want {
				t.Errorf("of %d: %v, %v, not %v", d, four, ok, want)
			}
		}
	}
}

func TestFacesOfATriangle(t *testing.T) {
	g := sample.Ring(3)
	r, e := New(g, graph.Whole(g), [][]int{{0, 5}, {2, 1}, {4, 3}})
	if e != api.OK {
		t.Fatalf("New: %d", e)
	}
	// The one face lies to the left of the darts that go on, the other one of those that go back.
	for _, face := range [][]int{{0, 2, 4, 0}, {1, 5, 3, 1}} {
		for i, d := range face[:3] {
			next, _ := r.Next(d)
			if back, _ := r.Back(face[i+1]); next != face[i+1] || back != d {
				t.Errorf("behind %d comes %d, ahead of %d %d", d, next, face[i+1], back)
			}
		}
	}
}

func TestStepsOfNoDarts(t *testing.T) {
	whole := mixedRota(t)
	for _, d := range []int{14, 15, 2047, -1, -2, -3, -14, least, least + 1, greatest, greatest - 1} {
		if four, ok := fourOf(t, whole, d); ok {
			t.Errorf("of %d: %v", d, four)
		}
	}
	p := api.Part{V: []int{0, 1, 2}, E: []int{1, 2, 4}}
	r, e := New(mixed(), p, [][]int{{5, 9}, {8, 2}, {4, 3}, nil, nil, nil})
	if e != api.OK {
		t.Fatalf("New: %d", e)
	}
	for d := -2; d < 16; d++ {
		if four, ok := fourOf(t, r, d); ok != slices.Contains([]int{2, 3, 4, 5, 8, 9}, d) {
			t.Errorf("of %d: %v, %v", d, four, ok)
		}
	}
	nothing, e := New(mixed(), api.Part{}, make([][]int, 6))
	if _, ok := fourOf(t, nothing, 0); e != api.OK || ok {
		t.Errorf("of nothing: %d, %v", e, ok)
	}
}

// Promise 6.2: At, Turn, Mirror, Darts.

func TestAtAndTurn(t *testing.T) {
	g := mixed()
	want := [][]int{{0, 7, 5, 9, 6}, {1, 2, 8}, {3, 13, 4}, nil, {10, 11}, {12}}
	for i := range 5 {
		// The list handed in begins with any of its darts.
		r, e := New(g, graph.Whole(g), sample.Turned(mixedTurn(), i))
		if e != api.OK || !slices.EqualFunc(r.Turn(), want, slices.Equal) {
			t.Errorf("%d: Turn: %v, %d", i, r.Turn(), e)
		}
		for v := range want {
			if !slices.Equal(r.At(v), want[v]) {
				t.Errorf("%d: At(%d): %v", i, v, r.At(v))
			}
		}
		for _, v := range []int{6, 7, 1024, -1, -6, least, greatest} {
			if len(r.At(v)) > 0 {
				t.Errorf("%d: At(%d): %v", i, v, r.At(v))
			}
		}
	}
	r, _ := New(g, api.Part{V: []int{1, 2}, E: []int{1}}, [][]int{nil, {2}, {3}, {}, nil, {}})
	if turn := r.Turn(); !slices.EqualFunc(turn, [][]int{nil, {2}, {3}, nil, nil, nil}, slices.Equal) || len(r.At(0)) > 0 {
		t.Errorf("of a part: %v", turn)
	}
	for _, g := range []api.Graph{{}, {N: 3}} {
		r, _ := New(g, graph.Whole(g), make([][]int, g.N))
		if turn := r.Turn(); len(turn) != g.N || len(slices.Concat(turn...)) > 0 || len(r.At(0)) > 0 {
			t.Errorf("of %d vertices: %v", g.N, turn)
		}
	}
}

func TestMirror(t *testing.T) {
	r := mixedRota(t)
	m := r.Mirror()
	want := [][]int{{0, 6, 9, 5, 7}, {1, 8, 2}, {3, 4, 13}, nil, {10, 11}, {12}}
	if !slices.EqualFunc(m.Turn(), want, slices.Equal) {
		t.Errorf("Mirror: %v", m.Turn())
	}
	checkTurns(t, mixed(), graph.Whole(mixed()), m, want)
	// What was mirrored is as it was.
	checkTurns(t, mixed(), graph.Whole(mixed()), r, [][]int{{0, 7, 5, 9, 6}, {1, 2, 8}, {3, 13, 4}, nil, {10, 11}, {12}})
	nothing, _ := New(api.Graph{}, api.Part{}, nil)
	if m := nothing.Mirror(); m == nil || len(m.Turn()) > 0 {
		t.Errorf("Mirror of nothing: %v", m)
	}
}

func TestDarts(t *testing.T) {
	g := mixed()
	darts := mixedRota(t).Darts()
	for range 2 { // and through again
		if l := slices.Collect(darts); !slices.Equal(l, sample.UpTo(14)) {
			t.Errorf("Darts: %v", l)
		}
	}
	for least := range 14 {
		var met []int
		for d := range darts {
			if met = append(met, d); d == least {
				break
			}
		}
		if !slices.Equal(met, sample.UpTo(least+1)) {
			t.Errorf("Darts, stopped at %d: %v", least, met)
		}
	}
	// Two at a time.
	pairs := 0
	for a := range darts {
		for b := range darts {
			if a < b {
				break
			}
			pairs++
		}
	}
	if pairs != 14*15/2 {
		t.Errorf("%d pairs", pairs)
	}
	r, _ := New(g, api.Part{V: []int{0, 1, 2}, E: []int{1, 2, 4}}, [][]int{{9, 5}, {8, 2}, {4, 3}, nil, nil, nil})
	if l := slices.Collect(r.Darts()); !slices.Equal(l, []int{2, 3, 4, 5, 8, 9}) {
		t.Errorf("Darts of a part: %v", l)
	}
	nothing, _ := New(g, api.Part{V: []int{0, 3}}, make([][]int, 6))
	if l := slices.Collect(nothing.Darts()); len(l) > 0 {
		t.Errorf("Darts of no edges: %v", l)
	}
}

// Promises 6.1 and 6.2: of nil there is nothing.

func TestNil(t *testing.T) {
	var r *Rota
	for _, d := range []int{0, 1, -1, least, greatest} {
		if _, ok := fourOf(t, r, d); ok || len(r.At(d)) > 0 {
			t.Errorf("of %d: %v, %v", d, ok, r.At(d))
		}
	}
	if len(r.Turn()) > 0 || r.Mirror() != nil {
		t.Errorf("Turn: %v, Mirror: %v", r.Turn(), r.Mirror())
	}
	if r.Darts() == nil || len(slices.Collect(r.Darts())) > 0 {
		t.Errorf("Darts: %v", r.Darts())
	}
}

// Promise 6.3, of great turns.

func TestGreatTurns(t *testing.T) {
	for name, g := range map[string]api.Graph{"loops": {N: 1, E: sample.Loops(1023)}, "ring": sample.Ring(512), "star": sample.Star(512), "bundle": sample.Bundle(1022)} {
		r, e := New(g, graph.Whole(g), sample.Mingled(g))
		if e != api.OK {
			t.Fatalf("%s: New: %d", name, e)
		}
		checkUndone(t, r)
		met := 0
		for d := range r.Darts() {
			if d != met {
				t.Fatalf("%s: %d, not %d", name, d, met)
			}
			met++
		}
		if met != 2*len(g.E) {
			t.Fatalf("%s: %d darts", name, met)
		}
	}
}

// All promises: nothing that is handed in changes or is kept, nothing that is handed out is shared.

// told answers all that turns tell.
func told(r *Rota) [][]int {
	lists := r.Turn()
	for v := range r.Turn() {
		lists = append(lists, r.At(v))
	}
	var steps []int
	for d := range r.Darts() {
		after, _ := r.After(d)
		before, _ := r.Before(d)
		next, _ := r.Next(d)
		back, _ := r.Back(d)
		steps = append(steps, d, after, before, next, back)
	}
	return append(lists, steps)
}

// toldOf answers a call that tells all of turns that it makes, and of those that it made when it was called first.
func toldOf() func(api.Graph, api.Part, [][]int) [][]int {
	var made *Rota
	return func(g api.Graph, p api.Part, turn [][]int) [][]int {
		r, _ := New(g, p, turn)
		if made == nil {
			made = r
		}
		return slices.Concat(told(made), told(made.Mirror()), told(r), told(r), told(r.Mirror()))
	}
}

func TestNothingIsChangedOrShared(t *testing.T) {
	for i, c := range sample.AllTurns(append(sample.Graphs(2, 2), mixed())) {
		if c.G.N > 2 && i > 0 {
			continue // one of many
		}
		if err := sample.FaultOf(c.G, c.P, sample.Turned(c.Turn, 1), toldOf()); err != nil {
			t.Fatalf("%v, %v, %v: %v", c.G, c.P, c.Turn, err)
		}
	}
}

func TestRefusedListsArentChanged(t *testing.T) {
	g := mixed()
	for _, wrong := range [][]int{{0, 5, 6, 7}, {9, 0, 5, 6, 6}, {9, 0, 5, 6, 14}, nil} {
		turn := mixedTurn()
		turn[0] = wrong
		if err := sample.FaultOf(g, graph.Whole(g), turn, toldOf()); err != nil {
			t.Errorf("%v: %v", wrong, err)
		}
	}
}

func TestNothingIsKept(t *testing.T) {
	g := mixed()
	room := &sample.Room{}
	r, _ := New(room.Graph(g), room.Part(graph.Whole(g)), room.Table(mixedTurn()))
	m, darts := r.Mirror(), r.Darts()
	want, wantMirrored := told(r), told(m)
	// What was handed in, and what was handed out, is written over.
	room.Spoil()
	for _, of := range []*Rota{r, m} {
		turn := of.Turn()
		for v, l := range turn {
			for _, own := range [][]int{l, of.At(v)} {
				for i := range own[:cap(own)] {
					own[:cap(own)][i] = -7
				}
			}
			turn[v] = []int{-7}
		}
		_ = append(turn[:0], nil, nil)
	}
	if !slices.EqualFunc(told(r), want, slices.Equal) || !slices.EqualFunc(told(m), wantMirrored, slices.Equal) {
		t.Errorf("told: %v, %v", told(r), told(m))
	}
	if l := slices.Collect(darts); !slices.Equal(l, sample.UpTo(14)) {
		t.Errorf("Darts: %v", l)
	}
}
