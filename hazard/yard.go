package hazard

import (
	"slices"

	"lineal/api"
)

// maxSize is the greatest size of a yard.
const maxSize = 4

// empty is what a slot has that points at no node.
const empty = -1

// state is where a node is.
type state int

const (
	free state = iota
	in
	by
)

// Yard has nodes, the slots of threads that point at them, and for each thread the list of what it has put by.
// It has arrays alone, so that one that is assigned is independent.
type Yard struct {
	threads, size int
	nodes         [api.MaxNodes]state
	slots         [api.MaxThreads][api.MaxSlots]int
	lists         [api.MaxThreads]list
}

// list has the nodes that a thread has put by. Behind them all are 0, so that equal lists are equal values.
type list struct {
	count int
	nodes [api.MaxNodes]int
}

func (l *list) add(node int) {
	l.nodes[l.count] = node
	l.count++
}

func (l list) all() []int { return slices.Clone(l.nodes[:l.count]) }

// isNone reports whether there is no yard: a zero one is as a nil one.
func (y *Yard) isNone() bool { return y == nil || y.threads == 0 }

// check is what must hold for a yard before something is done with it, and the error if it does not.
type check struct {
	holds func(y *Yard) bool
	err   api.Errno
}

// fails returns the error of the first check that does not hold. Those behind it are not asked: they may need that it holds.
func (y *Yard) fails(checks ...check) api.Errno {
	if y.isNone() {
		return api.ErrYard
	}
	for _, c := range checks {
		if !c.holds(y) {
			return c.err
		}
	}
	return api.OK
}

func isBelow(number, end int) bool { return 0 <= number && number < end }

func isThread(thread int) check {
	return check{func(y *Yard) bool { return isBelow(thread, y.threads) }, api.ErrArg}
}

func isSlot(slot int) check {
	return check{func(*Yard) bool { return isBelow(slot, api.MaxSlots) }, api.ErrArg}
}

func isNode(node int) check {
	return check{func(*Yard) bool { return isBelow(node, api.MaxNodes) }, api.ErrArg}
}

func isIn(node int) check {
	return check{func(y *Yard) bool { return y.nodes[node] == in }, api.ErrNone}
}

// points checks that a slot is not empty.
func points(thread, slot int) check {
	return check{func(y *Yard) bool { return y.slots[thread][slot] != empty }, api.ErrNone}
}

// isHeld reports whether a slot points at a node.
func (y *Yard) isHeld(node int) bool {
	for _, slots := range y.slots {
		if slices.Contains(slots[:], node) {
			return true
		}
	}
	return false
}

// sweep frees the nodes of a thread's list at which no slot points, and returns how many these are.
func (y *Yard) sweep(thread int) int {
	var kept list
	nodes := y.lists[thread].all()
	for _, node := range nodes {
		if y.isHeld(node) {
			kept.add(node)
		} else {
			y.nodes[node] = free
		}
	}
	y.lists[thread] = kept
	return len(nodes) - kept.count
}

// count returns how many nodes are somewhere.
func (y *Yard) count(where state) int {
	if y.isNone() {
		return 0
	}
	number := 0
	for _, is := range y.nodes {
		if is == where {
			number++
		}
	}
	return number
}
