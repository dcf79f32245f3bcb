package sample

import (
	"slices"

	"tracery/api"
)

// Mixed answers a graph with much in it: 0 to 3 hang together, with a loop, two edges between the same ends, a bridge and an end; 5 and 6 do; 8 has loops alone; 4, 7 and 9 have no edges.
//
//	0 -0- 1 -1- 2 -2- 0, 0 -3- 0, 1 -4- 0, 2 -5- 3, 5 -6- 6, 8 -7- 8, 8 -8- 8
func Mixed() api.Graph {
	return api.Graph{N: 10, E: Edges(0, 1, 1, 2, 2, 0, 0, 0, 1, 0, 2, 3, 5, 6, 8, 8, 8, 8)}
}

// Walks answers the darts of all walks of a right part's turns, each walk begun with its least, in the plainest way: by what they begin with. That of a vertex v without darts is -1 - v alone.
func Walks(p api.Part, turn [][]int) [][]int {
	var walks [][]int
	for _, v := range p.V {
		if len(turn[v]) == 0 {
			walks = append(walks, []int{-1 - v})
		}
	}
	for _, e := range p.E {
		for d := 2 * e; d <= 2*e+1; d++ {
			if darts := around(turn, d); d == slices.Min(darts) {
				walks = append(walks, darts)
			}
		}
	}
	slices.SortFunc(walks, slices.Compare[[]int])
	return walks
}

// around answers the darts around the face of one, begun with it.
func around(turn [][]int, d int) []int {
	darts := []int{d}
	for next := ahead(turn, d^1); next != d; next = ahead(turn, next^1) {
		darts = append(darts, next)
	}
	return darts
}

// ahead answers the dart ahead of one in its list, going round.
func ahead(turn [][]int, d int) int {
	for _, l := range turn {
		if i := slices.Index(l, d); i >= 0 {
			return l[(i+len(l)-1)%len(l)]
		}
	}
	return -1
}

// Partitions answers all ways to put numbers that rise into groups: each group rises, and the groups come by their first numbers.
func Partitions(numbers ...int) [][][]int {
	all := [][][]int{nil}
	for _, x := range numbers {
		var next [][][]int
		for _, groups := range all {
			next = append(next, append(slices.Clone(groups), []int{x}))
			for i, l := range groups {
				more := slices.Clone(groups)
				more[i] = append(slices.Clone(l), x)
				next = append(next, more)
			}
		}
		all = next
	}
	return all
}

// Together answers the groups that have two numbers or more.
func Together(groups [][]int) [][]int {
	var lists [][]int
	for _, l := range groups {
		if len(l) > 1 {
			lists = append(lists, l)
		}
	}
	return lists
}

// Hangings answers each way in which the pieces of a right part, drawn by turns, hang together to a drawing, as the walks of each region: none, if the turns aren't on spheres.
func Hangings(g api.Graph, p api.Part, turn [][]int) [][][]int {
	walks := Walks(p, turn)
	var keys []int
	for _, w := range walks {
		keys = append(keys, w[0])
	}
	pieces := labels(g, p)
	count := len(groupsOf(pieces))
	// No genus is below 0: if all of them make 0 together, so does each.
	if len(p.V)-len(p.E)+len(walks) != 2*count {
		return nil
	}
	var all [][][]int
	for _, regions := range Partitions(keys...) {
		if hangs(g, pieces, regions) {
			all = append(all, regions)
		}
	}
	return all
}

// hangs tells whether pieces, told by their vertices' labels, and regions, each joined to the pieces of its walks, are a tree: all of it hangs together, and the joints are one less than what they join.
func hangs(g api.Graph, pieces map[int]int, regions [][]int) bool {
	count := len(groupsOf(pieces))
	if count == 0 {
		return true
	}
	label := map[int]int{}
	for v, l := range pieces {
		label[v] = l
	}
	joints := 0
	for _, l := range regions {
		joints += len(l)
		for _, key := range l[1:] {
			relabel(label, cornerOf(g, l[0]), cornerOf(g, key))
		}
	}
	return len(groupsOf(label)) == 1 && joints == count+len(regions)-1
}

// cornerOf answers a vertex at a walk, by its key.
func cornerOf(g api.Graph, key int) int {
	if key < 0 {
		return -1 - key
	}
	return []int{g.E[key/2].A, g.E[key/2].B}[key%2]
}

// labels answers a label for each vertex of a right part: those that hang together have the same one.
func labels(g api.Graph, p api.Part) map[int]int {
	label := map[int]int{}
	for _, v := range p.V {
		label[v] = v
	}
	for _, e := range p.E {
		relabel(label, g.E[e].A, g.E[e].B)
	}
	return label
}

// relabel gives all vertices that have the label of one that of another one.
func relabel(label map[int]int, of, to int) {
	from, now := label[of], label[to]
	for v, l := range label {
		if l == from {
			label[v] = now
		}
	}
}

// groupsOf answers the vertices of each label.
func groupsOf(label map[int]int) map[int]int {
	groups := map[int]int{}
	for _, l := range label {
		groups[l]++
	}
	return groups
}

// Drawings answers all drawings of a right part, clean.
func Drawings(g api.Graph, p api.Part) []api.Plan {
	var all []api.Plan
	for _, turn := range Turns(g, p) {
		for _, regions := range Hangings(g, p, turn) {
			all = append(all, api.Plan{Turn: turn, Same: Together(regions)})
		}
	}
	return all
}
