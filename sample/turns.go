package sample

import (
	"iter"
	"slices"

	"tracery/api"
)

// Turns answers all turns of a right part, each list begun with its least dart.
func Turns(g api.Graph, p api.Part) [][][]int {
	all := [][][]int{nil}
	for v := range g.N {
		var next [][][]int
		for _, turn := range all {
			for _, l := range rounds(Leaving(g, p, v)) {
				next = append(next, append(slices.Clone(turn), l))
			}
		}
		all = next
	}
	return all
}

// Leaving answers the darts of a part that leave a vertex, rising, in the plainest way.
func Leaving(g api.Graph, p api.Part, v int) []int {
	var darts []int
	for _, e := range p.E {
		for i, end := range []int{g.E[e].A, g.E[e].B} {
			if end == v {
				darts = append(darts, 2*e+i)
			}
		}
	}
	return darts
}

// rounds answers all orders of a list that begin as it does.
func rounds(l []int) [][]int {
	if len(l) == 0 {
		return [][]int{nil}
	}
	var all [][]int
	for _, rest := range orders(l[1:]) {
		all = append(all, append([]int{l[0]}, rest...))
	}
	return all
}

// orders answers all orders of a list.
func orders(l []int) [][]int {
	if len(l) == 0 {
		return [][]int{nil}
	}
	var all [][]int
	for i, x := range l {
		for _, rest := range orders(slices.Concat(l[:i], l[i+1:])) {
			all = append(all, append([]int{x}, rest...))
		}
	}
	return all
}

// Turned answers each list, begun so many places further on.
func Turned(turn [][]int, places int) [][]int {
	all := make([][]int, len(turn))
	for v, l := range turn {
		for i := range l {
			all[v] = append(all[v], l[(i+places)%len(l)])
		}
	}
	return all
}

// About answers each list turned about, begun with what it begins with.
func About(turn [][]int) [][]int {
	all := make([][]int, len(turn))
	for v, l := range turn {
		for i := range l {
			all[v] = append(all[v], l[(len(l)-i)%len(l)])
		}
	}
	return all
}

// Mingled answers turns of all of a right graph, each of whose lists is in some order that isn't rising; how many darts a list has may be no multiple of 5.
func Mingled(g api.Graph) [][]int {
	all := make([][]int, g.N)
	for v := range all {
		all[v] = mingle(Leaving(g, api.Part{E: UpTo(len(g.E))}, v))
	}
	return all
}

// mingle answers each fifth thing of a list, going round till all are met.
func mingle(l []int) []int {
	var out []int
	for i := range l {
		out = append(out, l[i*5%len(l)])
	}
	return out
}

// IsBehind tells whether a dart stands right behind another one in a list of turns, going round.
func IsBehind(turn [][]int, d, other int) bool {
	for _, l := range turn {
		for i, x := range l {
			if x == other && l[(i+1)%len(l)] == d {
				return true
			}
		}
	}
	return false
}

// Drawn is turns of a right part of a graph.
type Drawn struct {
	G    api.Graph
	P    api.Part
	Turn [][]int
}

// AllTurns goes through all turns of all parts of right graphs, each with its place among the turns of its part.
func AllTurns(graphs []api.Graph) iter.Seq2[int, Drawn] {
	return func(yield func(int, Drawn) bool) {
		for _, g := range graphs {
			for _, p := range Parts(g) {
				for i, turn := range Turns(g, p) {
					if !yield(i, Drawn{G: g, P: p, Turn: turn}) {
						return
					}
				}
			}
		}
	}
}
