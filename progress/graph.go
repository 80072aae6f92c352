package progress

import (
	"iter"
	"slices"

	"lineal/api"
)

// threads is how many threads move in a graph.
const threads = 3

// maxPath is how many moves a path that is asked about may have.
const maxPath = 1000

func isBelow(number, end int) bool { return 0 <= number && number < end }

func isThread(thread int) bool { return isBelow(thread, threads) }

// graph is one that is valid.
type graph api.Graph

// graphOf returns a graph, if that is valid.
func graphOf(g api.Graph) (graph, api.Errno) {
	if !Valid(g) {
		return graph{}, api.ErrGraph
	}
	return graph(g), api.OK
}

// anyMove is the kind of moves that has all.
func anyMove(api.Move) bool { return true }

// paths goes over the places to which moves of a kind lead from a place, the place itself first, then the nearest ones.
// Each has the first one of its shortest paths: that of a place which comes first goes on before others of the same length.
func (g graph) paths(from int, are func(api.Move) bool) iter.Seq2[int, []int] {
	return func(yield func(int, []int) bool) {
		places, ways := []int{from}, [][]int{nil}
		for i := 0; i < len(places); i++ {
			if !yield(places[i], ways[i]) {
				return
			}
			for move, m := range g.Moves {
				if m.From == places[i] && are(m) && !slices.Contains(places, m.To) {
					places = append(places, m.To)
					ways = append(ways, slices.Concat(ways[i], []int{move}))
				}
			}
		}
	}
}

// way returns the first of the shortest paths of moves of a kind from one place to another one, if there is one.
func (g graph) way(from, to int, are func(api.Move) bool) ([]int, bool) {
	for place, path := range g.paths(from, are) {
		if place == to {
			return path, true
		}
	}
	return nil, false
}

// reached returns the places to which paths lead from 0, in ascending order.
func (g graph) reached() []int {
	var list []int
	for place := range g.paths(0, anyMove) {
		list = append(list, place)
	}
	slices.Sort(list)
	return list
}

// isEnd reports whether no move leads from a place.
func (g graph) isEnd(place int) bool {
	return !slices.ContainsFunc(g.Moves, func(m api.Move) bool { return m.From == place })
}

// leads returns the place to which a list leads, if it is a path that begins at a place.
func (g graph) leads(from int, list []int) (int, bool) {
	if len(list) > maxPath {
		return 0, false
	}
	at := from
	for _, move := range list {
		if !isBelow(move, len(g.Moves)) || g.Moves[move].From != at {
			return 0, false
		}
		at = g.Moves[move].To
	}
	return at, true
}

// isPath reports whether a list is a path, wherever it begins.
func (g graph) isPath(list []int) bool {
	if len(list) == 0 {
		return true
	}
	if !isBelow(list[0], len(g.Moves)) {
		return false
	}
	_, is := g.leads(g.Moves[list[0]].From, list)
	return is
}
