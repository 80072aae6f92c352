package history

import (
	"iter"

	"lineal/api"
)

// inTime reports whether the call a must be behind the call b, for an order to keep time.
func inTime(a, b api.Call) bool { return before(b, a) }

// inThread reports whether the call a must be behind the call b, for an order to keep threads.
func inThread(a, b api.Call) bool { return a.Thread == b.Thread && a.From > b.From }

// isOrder reports whether a list has each call at most once, and all that have returned.
func isOrder(h []api.Call, order []int) bool {
	listed := make([]bool, len(h))
	for _, call := range order {
		if !isIndex(h, call) || listed[call] {
			return false
		}
		listed[call] = true
	}
	for i, c := range h {
		if c.To != 0 && !listed[i] {
			return false
		}
	}
	return true
}

// keeps reports whether no call of an order comes first though it must be behind another one.
func keeps(h []api.Call, order []int, behind func(a, b api.Call) bool) bool {
	for i, then := range order {
		for _, first := range order[:i] {
			if behind(h[first], h[then]) {
				return false
			}
		}
	}
	return true
}

// allows reports whether the specs answer an order as its calls say.
func allows(specs []api.Spec, h []api.Call, order []int) bool {
	var at states
	for _, call := range order {
		if !at.allow(specs, h[call]) {
			return false
		}
	}
	return true
}

// states are the states of the objects.
type states [api.MaxObjects]int

// answer does a call, and returns what the specification of its object answers.
func (s *states) answer(specs []api.Spec, c api.Call) int {
	asked, state := specs[c.Object], s[c.Object]
	s[c.Object] = asked.Next[state][c.Op]
	return asked.Says[state][c.Op]
}

// allow does a call, and reports whether it is answered as it says; an open call may be answered in any way.
func (s *states) allow(specs []api.Spec, c api.Call) bool {
	says := s.answer(specs, c)
	return c.To == 0 || says == c.Says
}

// place is where a search is: the states of the objects, and the calls that are listed, a bit for each.
// What may follow depends on nothing else: lists that come to the same place go on in the same ways.
type place struct {
	states
	listed uint
}

func (p place) has(call int) bool { return p.listed&(1<<call) != 0 }

// search looks for the orders of a history that are allowed and that keep what its function says: that a call must be behind another one.
type search struct {
	specs  []api.Spec
	calls  []api.Call
	behind func(a, b api.Call) bool
	counts map[place]int
}

func newSearch(specs []api.Spec, h []api.Call, behind func(a, b api.Call) bool) search {
	return search{specs: specs, calls: h, behind: behind, counts: map[place]int{}}
}

// full reports whether all calls that have returned are listed.
func (s search) full(at place) bool {
	for i, c := range s.calls {
		if c.To != 0 && !at.has(i) {
			return false
		}
	}
	return true
}

// ready reports whether a call that is not listed may be next.
// A call that another one must be behind has returned, so it must be listed at some time, and then before.
func (s search) ready(at place, call int) bool {
	if at.has(call) {
		return false
	}
	for i, c := range s.calls {
		if s.behind(s.calls[call], c) && !at.has(i) {
			return false
		}
	}
	return true
}

// steps goes over the calls that may be next, each with the place to which it leads.
func (s search) steps(at place) iter.Seq2[int, place] {
	return func(yield func(int, place) bool) {
		for i, c := range s.calls {
			next := at
			if !s.ready(at, i) || !next.allow(s.specs, c) {
				continue
			}
			next.listed |= 1 << i
			if !yield(i, next) {
				return
			}
		}
	}
}

// count returns how many orders go on from a place; the one that ends there counts too.
func (s search) count(at place) int {
	if known, is := s.counts[at]; is {
		return known
	}
	total := 0
	if s.full(at) {
		total = 1
	}
	for _, next := range s.steps(at) {
		total += s.count(next)
	}
	s.counts[at] = total
	return total
}

// first returns the order that comes first, if there is one: at each place the end comes before all calls, and a call before those with a greater index.
func (s search) first() ([]int, bool) {
	var at place
	if s.count(at) == 0 {
		return nil, false
	}
	var order []int
	for !s.full(at) {
		for call, next := range s.steps(at) {
			if s.count(next) > 0 {
				order, at = append(order, call), next
				break
			}
		}
	}
	return order, true
}
