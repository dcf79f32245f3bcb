package sample

import (
	"errors"
	"slices"

	"tracery/api"
)

// What stands in the spare room behind each list, and how much of it there is.
const (
	mark  = 77
	spare = 3
)

// Room keeps lists that are handed in, each in memory of its own with spare room behind it, to tell what became of them.
type Room struct {
	lists, oldLists   [][]int
	edges, oldEdges   [][]api.Edge
	tables, oldTables [][][]int
}

// List lays a list into the room.
func (r *Room) List(l []int) []int {
	laid, old := lay(l, mark)
	r.lists, r.oldLists = append(r.lists, laid), append(r.oldLists, old)
	return laid
}

// Table lays a list of lists into the room, and each of them.
func (r *Room) Table(t [][]int) [][]int {
	var lists [][]int
	for _, l := range t {
		lists = append(lists, r.List(l))
	}
	laid, old := lay(lists, []int{mark})
	r.tables, r.oldTables = append(r.tables, laid), append(r.oldTables, old)
	return laid
}

// Graph lays a graph into the room.
func (r *Room) Graph(g api.Graph) api.Graph {
	laid, old := lay(g.E, api.Edge{A: mark, B: mark})
	r.edges, r.oldEdges = append(r.edges, laid), append(r.oldEdges, old)
	return api.Graph{N: g.N, E: laid}
}

// Part lays a part into the room.
func (r *Room) Part(p api.Part) api.Part {
	return api.Part{V: r.List(p.V), E: r.List(p.E)}
}

// Plan lays a plan into the room.
func (r *Room) Plan(x api.Plan) api.Plan {
	return api.Plan{Turn: r.Table(x.Turn), Same: r.Table(x.Same)}
}

// Taken answers the lists of a table that was handed out, and writes over the table itself: who keeps it, or handed in what it shares memory with, sees it.
func Taken(table [][]int) [][]int {
	lists := slices.Clone(table)
	fill(table, []int{-1})
	return lists
}

// Fault answers what a call does that it may not: it changes what was laid into the room, keeps it, or hands out lists that share memory. The room is of no use behind it.
func (r *Room) Fault(call func() [][]int) error {
	answer, other := call(), call()
	var want [][]int
	for _, l := range answer {
		want = append(want, slices.Clone(l))
	}
	for _, l := range other {
		fill(l, -1)
	}
	if !r.isOld() {
		return errors.New("what is handed in is changed, or shared")
	}
	r.Spoil()
	for i, l := range answer {
		if !slices.Equal(l, want[i]) {
			return errors.New("a list is shared with what is handed in, or with another answer")
		}
		// Each list is filled with a number of its own: the lists behind it show it, if they share its memory.
		fill(l, -3-i)
	}
	for i, l := range answer {
		for _, x := range whole(l) {
			if x != -3-i {
				return errors.New("two lists of one answer share memory")
			}
		}
	}
	return nil
}

// FaultOf answers the fault of a call that takes a graph, a part and turns, laid into a room of their own.
func FaultOf(g api.Graph, p api.Part, turn [][]int, call func(api.Graph, api.Part, [][]int) [][]int) error {
	room := &Room{}
	g, p, turn = room.Graph(g), room.Part(p), room.Table(turn)
	return room.Fault(func() [][]int { return call(g, p, turn) })
}

// isOld tells whether all lists are as they were laid in.
func (r *Room) isOld() bool {
	for i, l := range r.lists {
		if !slices.Equal(whole(l), r.oldLists[i]) {
			return false
		}
	}
	for i, l := range r.edges {
		if !slices.Equal(whole(l), r.oldEdges[i]) {
			return false
		}
	}
	for i, t := range r.tables {
		if !slices.EqualFunc(whole(t), r.oldTables[i], isOne) {
			return false
		}
	}
	return true
}

// isOne tells whether two lists are one in memory; those that the room knows of all have some.
func isOne(a, b []int) bool {
	return len(a) == len(b) && cap(a) == cap(b) && cap(a) > 0 && &whole(a)[0] == &whole(b)[0]
}

// Spoil writes over all that was laid into the room: what keeps it shows it.
func (r *Room) Spoil() {
	for _, l := range r.lists {
		fill(l, -2)
	}
	for _, l := range r.edges {
		fill(l, api.Edge{A: -2, B: -2})
	}
	for _, t := range r.tables {
		fill(t, []int{-2})
	}
}

// lay answers a copy of a list with spare room behind it, filled with x, and what stands in all of that.
func lay[T any](l []T, x T) ([]T, []T) {
	laid := append(make([]T, 0, len(l)+spare), l...)
	fill(laid[len(l):], x)
	return laid, slices.Clone(whole(laid))
}

// whole answers a list and the spare room behind it.
func whole[T any](l []T) []T {
	return l[:cap(l)]
}

// fill writes over a list and the spare room behind it.
func fill[T any](l []T, x T) {
	for i := range whole(l) {
		whole(l)[i] = x
	}
}
