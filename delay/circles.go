package delay

import (
	"slices"

	"lineal/api"
)

// accesses are those of threads, and valid. A station of them is [3]int (t, a, b): the accesses a and b of the thread t,
// which are one access or a pair.
type accesses [][]api.Access

func isBelow(number, end int) bool { return 0 <= number && number < end }

func isAccess(a api.Access) bool { return isBelow(a.Var, api.MaxVars) }

// isThread reports whether a list may be the accesses of a thread.
func isThread(list []api.Access) bool {
	isNone := func(a api.Access) bool { return !isAccess(a) }
	return len(list) <= api.MaxAccesses && !slices.ContainsFunc(list, isNone)
}

// accessesOf returns accesses, if they are valid.
func accessesOf(x [][]api.Access) (accesses, api.Errno) {
	if !Valid(x) {
		return nil, api.ErrAccess
	}
	return x, api.OK
}

// has reports whether a thread has an access with an index.
func (x accesses) has(t, a int) bool { return isBelow(t, len(x)) && isBelow(a, len(x[t])) }

// conflict reports whether two accesses, which are there, conflict.
func (x accesses) conflict(t, a, u, b int) bool {
	one, other := x[t][a], x[u][b]
	return t != u && one.Var == other.Var && (one.Write || other.Write)
}

// isOne reports whether a station is one access, not a pair.
func isOne(s [3]int) bool { return s[1] == s[2] }

func (x accesses) isPair(s [3]int) bool {
	t, a, b := s[0], s[1], s[2]
	return x.has(t, a) && x.has(t, b) && a < b && x[t][a].Var != x[t][b].Var
}

func (x accesses) isStation(s [3]int) bool { return isOne(s) && x.has(s[0], s[1]) || x.isPair(s) }

// stations returns all stations, in ascending order.
func (x accesses) stations() [][3]int {
	var list [][3]int
	for t, thread := range x {
		for a := range thread {
			for b := range thread {
				if s := [3]int{t, a, b}; x.isStation(s) {
					list = append(list, s)
				}
			}
		}
	}
	return list
}

// pairs returns all pairs, in ascending order.
func (x accesses) pairs() [][3]int { return slices.DeleteFunc(x.stations(), isOne) }

// meets reports whether the last access of a station conflicts with the first one of the next station.
func (x accesses) meets(s, next [3]int) bool { return x.conflict(s[0], s[2], next[0], next[1]) }

// goesOn reports whether a station may come behind a list of them: it has another thread than each, and the last one meets it.
// So no list goes on for ever.
func (x accesses) goesOn(list [][3]int, s [3]int) bool {
	hasThread := func(other [3]int) bool { return other[0] == s[0] }
	return len(list) == 0 || !slices.ContainsFunc(list, hasThread) && x.meets(list[len(list)-1], s)
}

// isClosed reports whether a list of stations, each of which may come behind those in front of it, is a circle.
// That of one station is none: no accesses of one thread conflict.
func (x accesses) isClosed(list [][3]int) bool {
	isPair := func(s [3]int) bool { return !isOne(s) }
	return slices.ContainsFunc(list, isPair) && x.meets(list[len(list)-1], list[0])
}

func (x accesses) isCircle(list [][3]int) bool {
	for i, s := range list {
		if !x.isStation(s) || !x.goesOn(list[:i], s) {
			return false
		}
	}
	return x.isClosed(list)
}

// circles goes over all circles, the shortest ones first.
func (x accesses) circles(yield func([][3]int) bool) {
	stations := x.stations()
	lists := [][][3]int{nil}
	for i := 0; i < len(lists); i++ {
		list := lists[i]
		if x.isClosed(list) && !yield(list) {
			return
		}
		for _, s := range stations {
			if x.goesOn(list, s) {
				// Other lists go on from the same one: with no room behind its end, each of them gets memory of its own.
				lists = append(lists, append(list[:len(list):len(list)], s))
			}
		}
	}
}

// found returns for each station that some circle has the first of these circles.
func (x accesses) found() map[[3]int][][3]int {
	first := map[[3]int][][3]int{}
	for circle := range x.circles {
		for _, s := range circle {
			if first[s] == nil {
				first[s] = circle
			}
		}
	}
	return first
}

// onCircles returns the needed pairs, in ascending order.
func (x accesses) onCircles() [][3]int {
	first := x.found()
	return slices.DeleteFunc(x.pairs(), func(pair [3]int) bool { return first[pair] == nil })
}

// isEach reports whether a list has each number below n, once.
func isEach(list []int, n int) bool {
	for number := range n {
		if !slices.Contains(list, number) {
			return false
		}
	}
	return len(list) == n
}
