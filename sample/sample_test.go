package sample

import (
	"slices"
	"testing"

	"tracery/api"
)

func TestLists(t *testing.T) {
	want := [][]int{nil, {5}, {3}, {5, 5}, {5, 3}, {3, 5}, {3, 3}}
	if l := Lists(2, 5, 3); !slices.EqualFunc(l, want, slices.Equal) {
		t.Errorf("Lists: %v", l)
	}
	want = [][]int{nil, {1}, {2}, {1, 2}, {4}, {1, 4}, {2, 4}, {1, 2, 4}}
	if l := Rising(1, 2, 4); !slices.EqualFunc(l, want, slices.Equal) {
		t.Errorf("Rising: %v", l)
	}
}

func TestGraphsAndParts(t *testing.T) {
	graphs := Graphs(2, 2)
	if len(graphs) != 1+(1+1+1)+(1+4+16) {
		t.Errorf("%d graphs", len(graphs))
	}
	g := Ring(2)
	if !slices.Equal(g.E, Edges(0, 1, 1, 0)) {
		t.Errorf("Ring: %v", g)
	}
	// Of no vertex, of one, of the other one, of both with four lists of edges.
	if parts := Parts(g); len(parts) != 1+1+1+4 {
		t.Errorf("%d parts", len(parts))
	}
}

func TestFault(t *testing.T) {
	var kept []int
	one := []int{1, 2, 3, 4}
	for name, c := range map[string]struct {
		call func(g api.Graph, p api.Part) [][]int
		bad  bool
	}{
		"new lists":               {func(_ api.Graph, p api.Part) [][]int { return [][]int{slices.Clone(p.V), slices.Clone(p.V), nil} }, false},
		"what is handed in":       {func(_ api.Graph, p api.Part) [][]int { return [][]int{p.V} }, true},
		"its spare room":          {func(_ api.Graph, p api.Part) [][]int { return [][]int{append(p.E, 5)} }, true},
		"writes to a list":        {func(_ api.Graph, p api.Part) [][]int { p.V[0]++; return nil }, true},
		"writes to spare room":    {func(_ api.Graph, p api.Part) [][]int { _ = append(p.E, 5); return nil }, true},
		"writes to edges":         {func(g api.Graph, _ api.Part) [][]int { g.E[0].A = 1; return nil }, true},
		"writes behind the edges": {func(g api.Graph, _ api.Part) [][]int { _ = append(g.E, api.Edge{}); return nil }, true},
		"one list for all calls": {func(_ api.Graph, p api.Part) [][]int {
			kept = append(kept[:0], p.V...)
			return [][]int{kept}
		}, true},
		"two stretches of one list": {func(api.Graph, api.Part) [][]int {
			l := slices.Clone(one)
			return [][]int{l[:2], l[2:]}
		}, true},
		"one list twice": {func(api.Graph, api.Part) [][]int {
			l := slices.Clone(one)
			return [][]int{l, l}
		}, true},
	} {
		room := &Room{}
		g, p := room.Graph(Ring(2)), room.Part(api.Part{V: []int{0, 1}})
		if err := room.Fault(func() [][]int { return c.call(g, p) }); (err != nil) != c.bad {
			t.Errorf("%s: %v", name, err)
		}
	}
}
