package sample

import (
	"slices"
	"testing"

	"tracery/api"
)

func TestLists(t *testing.T) {
	want := [][]int{nil, {5}, {3}, {5, 5}, {5, 3}, {3, 5}, {3, 3}}
	if l := Lists(2, 5, 3); !slices.EqualFunc(l, want, slices.Equal) {
		t.Errorf("Lists: %v", l)
	}
	want = [][]int{nil, {1}, {2}, {1, 2}, {4}, {1, 4}, {2, 4}, {1, 2, 4}}
	if l := Rising(1, 2, 4); !slices.EqualFunc(l, want, slices.Equal) {
		t.Errorf("Rising: %v", l)
	}
}

func TestGraphsAndParts(t *testing.T) {
	graphs := Graphs(2, 2)
	if len(graphs) != 1+(1+1+1)+(1+4+16) {
		t.Errorf("%d graphs", len(graphs))
	}
	g := Ring(2)
	if !slices.Equal(g.E, Edges(0, 1, 1, 0)) {
		t.Errorf("Ring: %v", g)
	}
	if g := Star(3); g.N != 3 || !slices.Equal(g.E, Edges(0, 1, 0, 2)) {
		t.Errorf("Star: %v", g)
	}
	if g := Bundle(2); g.N != 2 || !slices.Equal(g.E, Edges(0, 1, 0, 1)) {
		t.Errorf("Bundle: %v", g)
	}
	// Of no vertex, of one, of the other one, of both with four lists of edges.
	if parts := Parts(g); len(parts) != 1+1+1+4 {
		t.Errorf("%d parts", len(parts))
	}
}

func TestTurns(t *testing.T) {
	// A loop at 0, an edge to 1 and one from there; nothing at 2.
	g := api.Graph{N: 3, E: Edges(0, 0, 0, 1, 1, 0)}
	want := [][]int{
		{0, 1, 2, 5}, {3, 4}, nil,
		{0, 1, 5, 2}, {3, 4}, nil,
		{0, 2, 1, 5}, {3, 4}, nil,
		{0, 2, 5, 1}, {3, 4}, nil,
		{0, 5, 1, 2}, {3, 4}, nil,
		{0, 5, 2, 1}, {3, 4}, nil,
	}
	turns := slices.Concat(Turns(g, api.Part{V: UpTo(3), E: UpTo(3)})...)
	if !slices.EqualFunc(turns, want, slices.Equal) {
		t.Errorf("Turns: %v", turns)
	}
	turns = slices.Concat(Turns(g, api.Part{V: UpTo(2), E: []int{1}})...)
	if !slices.EqualFunc(turns, [][]int{{2}, {3}, nil}, slices.Equal) {
		t.Errorf("Turns of one edge: %v", turns)
	}
	if all := Turns(api.Graph{}, api.Part{}); len(all) != 1 || len(all[0]) > 0 {
		t.Errorf("Turns of nothing: %v", all)
	}
}

func TestOtherTurns(t *testing.T) {
	turn := [][]int{{0, 1, 2, 5}, {3, 4}, nil}
	for name, c := range map[string]struct{ answer, want [][]int }{
		"turned by 1": {Turned(turn, 1), [][]int{{1, 2, 5, 0}, {4, 3}, nil}},
		"turned by 6": {Turned(turn, 6), [][]int{{2, 5, 0, 1}, {3, 4}, nil}},
		"about":       {About(turn), [][]int{{0, 5, 2, 1}, {3, 4}, nil}},
		"mingled":     {Mingled(api.Graph{N: 3, E: Edges(0, 0, 0, 1, 1, 0)}), [][]int{{0, 1, 2, 5}, {3, 4}, nil}},
		"mingled 8":   {Mingled(api.Graph{N: 1, E: Loops(4)}), [][]int{{0, 5, 2, 7, 4, 1, 6, 3}}},
	} {
		if !slices.EqualFunc(c.answer, c.want, slices.Equal) {
			t.Errorf("%s: %v", name, c.answer)
		}
	}
	for _, c := range []struct {
		d, other int
		want     bool
	}{{1, 0, true}, {0, 5, true}, {0, 1, false}, {2, 0, false}, {4, 3, true}, {3, 4, true}, {3, 5, false}, {6, 6, false}} {
		if IsBehind(turn, c.d, c.other) != c.want {
			t.Errorf("IsBehind of %d, %d: %v", c.d, c.other, !c.want)
		}
	}
}

func TestWrongParts(t *testing.T) {
	for _, g := range []api.Graph{Ring(2), Ring(3), Star(4), Bundle(3), {N: 2, E: Loops(2)}} {
		for _, p := range WrongParts(g) {
			if IsPart(g, p) {
				t.Errorf("%v is a part of %v", p, g)
			}
		}
	}
}

func TestFaultOfTables(t *testing.T) {
	for name, c := range map[string]struct {
		call func(table [][]int) [][]int
		bad  bool
	}{
		"new lists":               {func(table [][]int) [][]int { return [][]int{slices.Concat(table...)} }, false},
		"what is handed in":       {func(table [][]int) [][]int { return table }, true},
		"one of its lists":        {func(table [][]int) [][]int { return [][]int{table[1]} }, true},
		"writes to a list":        {func(table [][]int) [][]int { table[0][0]++; return nil }, true},
		"takes another list":      {func(table [][]int) [][]int { table[0] = slices.Clone(table[0]); return nil }, true},
		"takes a shorter list":    {func(table [][]int) [][]int { table[0] = table[0][:1]; return nil }, true},
		"takes no list":           {func(table [][]int) [][]int { table[2] = nil; return nil }, true},
		"takes another one's":     {func(table [][]int) [][]int { table[0] = table[1]; return nil }, true},
		"writes behind a list":    {func(table [][]int) [][]int { _ = append(table[2], 5); return nil }, true},
		"writes behind the lists": {func(table [][]int) [][]int { _ = append(table, nil); return nil }, true},
	} {
		room := &Room{}
		table := room.Table([][]int{{1, 2}, {3, 4}, nil})
		if err := room.Fault(func() [][]int { return c.call(table) }); (err != nil) != c.bad {
			t.Errorf("%s: %v", name, err)
		}
	}
}

func TestSpoil(t *testing.T) {
	room := &Room{}
	g, table := room.Graph(Ring(2)), room.Table([][]int{{1, 2}, nil})
	list := table[0]
	room.Spoil()
	if g.E[0].A >= 0 || g.E[1].B >= 0 || list[0] >= 0 || list[:3][2] >= 0 || len(table[1]) != 1 || len(table[:3][2]) != 1 {
		t.Errorf("left: %v, %v, %v", g, list[:3], table[:3])
	}
}

func TestFault(t *testing.T) {
	var kept []int
	one := []int{1, 2, 3, 4}
	for name, c := range map[string]struct {
		call func(g api.Graph, p api.Part) [][]int
		bad  bool
	}{
		"new lists":               {func(_ api.Graph, p api.Part) [][]int { return [][]int{slices.Clone(p.V), slices.Clone(p.V), nil} }, false},
		"what is handed in":       {func(_ api.Graph, p api.Part) [][]int { return [][]int{p.V} }, true},
		"its spare room":          {func(_ api.Graph, p api.Part) [][]int { return [][]int{append(p.E, 5)} }, true},
		"writes to a list":        {func(_ api.Graph, p api.Part) [][]int { p.V[0]++; return nil }, true},
		"writes to spare room":    {func(_ api.Graph, p api.Part) [][]int { _ = append(p.E, 5); return nil }, true},
		"writes to edges":         {func(g api.Graph, _ api.Part) [][]int { g.E[0].A = 1; return nil }, true},
		"writes behind the edges": {func(g api.Graph, _ api.Part) [][]int { _ = append(g.E, api.Edge{}); return nil }, true},
		"one list for all calls": {func(_ api.Graph, p api.Part) [][]int {
			kept = append(kept[:0], p.V...)
			return [][]int{kept}
		}, true},
		"two stretches of one list": {func(api.Graph, api.Part) [][]int {
			l := slices.Clone(one)
			return [][]int{l[:2], l[2:]}
		}, true},
		"one list twice": {func(api.Graph, api.Part) [][]int {
			l := slices.Clone(one)
			return [][]int{l, l}
		}, true},
	} {
		room := &Room{}
		g, p := room.Graph(Ring(2)), room.Part(api.Part{V: []int{0, 1}})
		if err := room.Fault(func() [][]int { return c.call(g, p) }); (err != nil) != c.bad {
			t.Errorf("%s: %v", name, err)
		}
	}
}

func TestAllTurns(t *testing.T) {
	// Of a loop: its vertex alone, the loop, nothing; of two loops the whole has six turns.
	places := []int{}
	for i, c := range AllTurns([]api.Graph{{}, {N: 1, E: Loops(2)}}) {
		if !IsPart(c.G, c.P) || len(c.Turn) != c.G.N {
			t.Errorf("%v", c)
		}
		places = append(places, i)
	}
	if !slices.Equal(places, []int{0, 0, 0, 0, 0, 0, 1, 2, 3, 4, 5}) {
		t.Errorf("AllTurns: %v", places)
	}
	for i, c := range AllTurns([]api.Graph{{}, Ring(3)}) {
		if i != 0 || c.G.N != 0 {
			t.Errorf("%d, %v", i, c)
		}
		break
	}
}

func TestWalks(t *testing.T) {
	// A loop at 0, an edge to 1 and one from there; nothing at 2, and 3 is no vertex of the part.
	p := api.Part{V: UpTo(3), E: UpTo(3)}
	walks := Walks(p, [][]int{{2, 5, 0, 1}, {4, 3}, nil, nil})
	if want := [][]int{{-3}, {0}, {1, 5, 3}, {2, 4}}; !slices.EqualFunc(walks, want, slices.Equal) {
		t.Errorf("Walks: %v", walks)
	}
	if walks := Walks(api.Part{}, nil); len(walks) > 0 {
		t.Errorf("Walks of nothing: %v", walks)
	}
}

func TestPartitions(t *testing.T) {
	want := [][][]int{{{1}, {2}, {5}}, {{1, 5}, {2}}, {{1}, {2, 5}}, {{1, 2}, {5}}, {{1, 2, 5}}}
	all := Partitions(1, 2, 5)
	if !slices.EqualFunc(all, want, func(a, b [][]int) bool { return slices.EqualFunc(a, b, slices.Equal) }) {
		t.Errorf("Partitions: %v", all)
	}
	for n, count := range []int{1, 1, 2, 5, 15, 52, 203, 877} {
		if all := Partitions(UpTo(n)...); len(all) != count {
			t.Errorf("Partitions of %d: %d", n, len(all))
		}
	}
	if lists := Together([][]int{{1}, {2, 5}, {3}, {4, 6, 7}}); !slices.EqualFunc(lists, [][]int{{2, 5}, {4, 6, 7}}, slices.Equal) {
		t.Errorf("Together: %v", lists)
	}
}

// How many ways there are to hang pieces together is known: their walks' counts, one times the other, times how many regions there are, once for each piece beyond two.
func TestHangings(t *testing.T) {
	for name, c := range map[string]struct {
		g    api.Graph
		turn [][]int
		want int
	}{
		"nothing":              {api.Graph{}, nil, 1},
		"a vertex":             {api.Graph{N: 1}, [][]int{nil}, 1},
		"a ring":               {Ring(3), [][]int{{0, 5}, {1, 2}, {3, 4}}, 1},
		"four vertices":        {api.Graph{N: 4}, make([][]int, 4), 1},
		"a loop, a vertex":     {api.Graph{N: 2, E: Loops(1)}, [][]int{{0, 1}, nil}, 2},
		"a loop, two vertices": {api.Graph{N: 3, E: Loops(1)}, [][]int{{0, 1}, nil, nil}, 2 * 2},
		"two loops":            {api.Graph{N: 2, E: Edges(0, 0, 1, 1)}, [][]int{{0, 1}, {2, 3}}, 2 * 2},
		"three loops":          {api.Graph{N: 3, E: Edges(0, 0, 1, 1, 2, 2)}, [][]int{{0, 1}, {2, 3}, {4, 5}}, 2 * 2 * 2 * 4},
		"a bundle, two loops":  {api.Graph{N: 4, E: Edges(0, 1, 0, 1, 0, 1, 2, 2, 3, 3)}, [][]int{{0, 2, 4}, {5, 3, 1}, {6, 7}, {8, 9}}, 3 * 2 * 2 * 5},
		"a loop, three apart":  {api.Graph{N: 4, E: Loops(1)}, [][]int{{0, 1}, nil, nil, nil}, 2 * 2 * 2},
		"genus 1":              {Bundle(3), [][]int{{0, 2, 4}, {1, 3, 5}}, 0},
		"genus 1, a vertex":    {api.Graph{N: 2, E: Loops(2)}, [][]int{{0, 2, 1, 3}, nil}, 0},
	} {
		p := api.Part{V: UpTo(c.g.N), E: UpTo(len(c.g.E))}
		if all := Hangings(c.g, p, c.turn); len(all) != c.want {
			t.Errorf("%s: Hangings: %v", name, all)
		}
	}
	// Four of the six turns of two loops are on a sphere, with three walks each: the other vertex is in one of three regions.
	g := api.Graph{N: 2, E: Loops(2)}
	if all := Drawings(g, api.Part{V: UpTo(2), E: UpTo(2)}); len(all) != 4*3 {
		t.Errorf("Drawings: %v", all)
	}
	if all := Drawings(g, api.Part{V: UpTo(2)}); len(all) != 1 || !slices.EqualFunc(all[0].Same, [][]int{{-2, -1}}, slices.Equal) || len(all[0].Turn) != 2 {
		t.Errorf("Drawings of two vertices: %v", all)
	}
	if all := Drawings(g, api.Part{}); len(all) != 1 || len(all[0].Same) > 0 || len(all[0].Turn) != 2 {
		t.Errorf("Drawings of nothing: %v", all)
	}
}

func TestTaken(t *testing.T) {
	table := append(make([][]int, 0, 5), []int{1}, []int{2, 3})
	lists := Taken(table)
	if !slices.EqualFunc(lists, [][]int{{1}, {2, 3}}, slices.Equal) || !slices.Equal(table[1], []int{-1}) || !slices.Equal(table[:3][2], []int{-1}) {
		t.Errorf("Taken: %v, left %v", lists, table[:3])
	}
	for name, c := range map[string]struct {
		call func(x api.Plan) [][]int
		bad  bool
	}{
		"new turns":               {func(x api.Plan) [][]int { return Taken(slices.Clone([][]int{{1}})) }, false},
		"turns that it was given": {func(x api.Plan) [][]int { Taken(x.Turn); return nil }, true},
		"lists that it was given": {func(x api.Plan) [][]int { Taken(x.Same[:1]); return nil }, true},
	} {
		room := &Room{}
		x := room.Plan(api.Plan{Turn: [][]int{{0, 1}, nil}, Same: [][]int{{-2, 0}}})
		if err := room.Fault(func() [][]int { return c.call(x) }); (err != nil) != c.bad {
			t.Errorf("%s: %v", name, err)
		}
	}
}
