// Package sample makes what tests of several layers hand in: small graphs, all of their parts, these parts' turns and drawings, graphs that aren't right, lists with spare room. No layer calls it.
package sample

import (
	"math"
	"slices"

	"tracery/api"
)

// UpTo answers the numbers from 0 to n - 1.
func UpTo(n int) []int {
	l := make([]int, n)
	for x := range l {
		l[x] = x
	}
	return l
}

// Edges answers edges out of their ends, by twos.
func Edges(ends ...int) []api.Edge {
	var l []api.Edge
	for i := 0; i+1 < len(ends); i += 2 {
		l = append(l, api.Edge{A: ends[i], B: ends[i+1]})
	}
	return l
}

// Loops answers n loops at 0.
func Loops(n int) []api.Edge {
	return make([]api.Edge, n)
}

// Ring answers a graph in which each vertex is joined to the next one, and the last one to the first.
func Ring(n int) api.Graph {
	g := api.Graph{N: n}
	for v := range n {
		g.E = append(g.E, api.Edge{A: v, B: (v + 1) % n})
	}
	return g
}

// Star answers a graph in which 0 is joined to each of the other vertices.
func Star(n int) api.Graph {
	g := api.Graph{N: n}
	for v := 1; v < n; v++ {
		g.E = append(g.E, api.Edge{A: 0, B: v})
	}
	return g
}

// Bundle answers a graph of n edges, all of them from 0 to 1.
func Bundle(n int) api.Graph {
	g := api.Graph{N: 2}
	for range n {
		g.E = append(g.E, api.Edge{A: 0, B: 1})
	}
	return g
}

// Lists answers all lists of at most so many numbers out of those that are handed in: the shorter ones first, and of one length those whose first numbers come first.
func Lists(most int, numbers ...int) [][]int {
	all := [][]int{nil}
	last := all
	for range most {
		var next [][]int
		for _, l := range last {
			for _, x := range numbers {
				next = append(next, append(slices.Clone(l), x))
			}
		}
		all = append(all, next...)
		last = next
	}
	return all
}

// Rising answers all lists that rise, out of numbers that rise.
func Rising(numbers ...int) [][]int {
	all := [][]int{nil}
	for _, x := range numbers {
		for _, l := range slices.Clone(all) {
			all = append(all, append(slices.Clone(l), x))
		}
	}
	return all
}

// Graphs answers all right graphs of at most so many vertices and so many edges.
func Graphs(vertices, edges int) []api.Graph {
	var all []api.Graph
	for n := range vertices + 1 {
		for _, ends := range Lists(2*edges, UpTo(n)...) {
			if len(ends)%2 == 0 {
				all = append(all, api.Graph{N: n, E: Edges(ends...)})
			}
		}
	}
	return all
}

// Parts answers all right parts of a right graph.
func Parts(g api.Graph) []api.Part {
	var all []api.Part
	for _, vertices := range Rising(UpTo(g.N)...) {
		for _, edges := range Rising(UpTo(len(g.E))...) {
			if p := (api.Part{V: vertices, E: edges}); IsPart(g, p) {
				all = append(all, p)
			}
		}
	}
	return all
}

// IsPart tells of a part of a right graph whether it is right, in the plainest way.
func IsPart(g api.Graph, p api.Part) bool {
	for i, v := range p.V {
		if v < 0 || v >= g.N || i > 0 && p.V[i-1] >= v {
			return false
		}
	}
	for i, e := range p.E {
		if e < 0 || e >= len(g.E) || i > 0 && p.E[i-1] >= e {
			return false
		}
		if !slices.Contains(p.V, g.E[e].A) || !slices.Contains(p.V, g.E[e].B) {
			return false
		}
	}
	return true
}

// Alike tells whether two parts have the same.
func Alike(a, b api.Part) bool {
	return slices.Equal(a.V, b.V) && slices.Equal(a.E, b.E)
}

// IsEmpty tells whether a part has nothing.
func IsEmpty(p api.Part) bool {
	return len(p.V) == 0 && len(p.E) == 0
}

// WrongGraph is a graph that isn't right, and its error.
type WrongGraph struct {
	G    api.Graph
	Want api.Errno
}

// WrongGraphs answers graphs that aren't right.
func WrongGraphs() []WrongGraph {
	const least, greatest = math.MinInt, math.MaxInt
	return []WrongGraph{
		{api.Graph{N: -1}, api.ErrGraph},
		{api.Graph{N: least}, api.ErrGraph},
		{api.Graph{N: -1, E: Edges(0, 0)}, api.ErrGraph},
		// N and the edges beyond MaxSize, and sums of them that don't fit.
		{api.Graph{N: 1025}, api.ErrLarge},
		{api.Graph{N: 1024, E: Loops(1)}, api.ErrLarge},
		{api.Graph{N: 512, E: Loops(513)}, api.ErrLarge},
		{api.Graph{N: 1, E: Loops(1024)}, api.ErrLarge},
		{api.Graph{N: 1, E: Loops(1 << 18)}, api.ErrLarge},
		{api.Graph{N: 1 << 32}, api.ErrLarge},
		{api.Graph{N: greatest}, api.ErrLarge},
		{api.Graph{N: greatest, E: Loops(1)}, api.ErrLarge},
		{api.Graph{N: greatest - 1023, E: Loops(1024)}, api.ErrLarge},
		// Ends that are none of the vertices.
		{api.Graph{E: Edges(0, 0)}, api.ErrGraph},
		{api.Graph{E: Loops(1024)}, api.ErrGraph},
		{api.Graph{N: 1, E: Edges(1, 0)}, api.ErrGraph},
		{api.Graph{N: 1, E: Edges(0, 1)}, api.ErrGraph},
		{api.Graph{N: 2, E: Edges(0, 1, -1, 0)}, api.ErrGraph},
		{api.Graph{N: 2, E: Edges(0, 1, 0, -1)}, api.ErrGraph},
		{api.Graph{N: 2, E: Edges(0, 1, 1, 0, 1, 2)}, api.ErrGraph},
		{api.Graph{N: 2, E: Edges(greatest, 0)}, api.ErrGraph},
		{api.Graph{N: 2, E: Edges(0, least)}, api.ErrGraph},
		{api.Graph{N: 512, E: append(Loops(511), api.Edge{A: 512})}, api.ErrGraph},
		// The first of two errors: N below 0, then the size, then the ends.
		{api.Graph{N: -1, E: Loops(1026)}, api.ErrGraph},
		{api.Graph{N: least, E: Loops(2000)}, api.ErrGraph},
		{api.Graph{N: -1, E: Edges(5, 5)}, api.ErrGraph},
		{api.Graph{N: 1025, E: Edges(-1, 5000)}, api.ErrLarge},
		{api.Graph{E: Loops(1025)}, api.ErrLarge},
		{api.Graph{N: 1, E: append(Loops(1023), api.Edge{A: -1})}, api.ErrLarge},
	}
}

// WrongParts answers parts that aren't right, of a right graph that has two vertices and two edges at least.
func WrongParts(g api.Graph) []api.Part {
	const least, greatest = math.MinInt, math.MaxInt
	all := UpTo(g.N)
	var parts []api.Part
	// Vertices that don't rise, or are none.
	for _, l := range [][]int{{1, 0}, {0, 0}, {g.N}, {-1}, {0, g.N}, {-1, 0}, {least}, {greatest}, UpTo(g.N + 1)} {
		parts = append(parts, api.Part{V: l})
	}
	// Edges that don't rise, or are none.
	for _, l := range [][]int{{1, 0}, {0, 0}, {len(g.E)}, {-1}, {0, len(g.E)}, {-1, 0}, {least}, {greatest}, UpTo(len(g.E) + 1)} {
		parts = append(parts, api.Part{V: all, E: l})
	}
	// Edges without one of their ends, or without both.
	for e, ends := range g.E {
		for _, v := range []int{ends.A, ends.B} {
			parts = append(parts, api.Part{V: slices.Concat(all[:v], all[v+1:]), E: []int{e}})
		}
		parts = append(parts, api.Part{E: []int{e}})
	}
	return append(parts, api.Part{E: UpTo(len(g.E))})
}
