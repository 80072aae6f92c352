package refine

import (
	"slices"

	"lineal/api"
)

// relation is a relation between systems: for each state of the one the states of the other one with which it is a pair.
type relation [api.MaxSystem]set

// isRelation reports whether a list has different pairs of a number below n and one below m, in ascending order.
func isRelation(list [][2]int, n, m int) bool {
	for i, at := range list {
		if at[0] < 0 || at[0] >= n || at[1] < 0 || at[1] >= m {
			return false
		}
		if i > 0 && slices.Compare(list[i-1][:], at[:]) >= 0 {
			return false
		}
	}
	return true
}

// relationOf returns the relation that has the pairs of a list.
func relationOf(list [][2]int) relation {
	var r relation
	for _, at := range list {
		r[at[0]] |= 1 << at[1]
	}
	return r
}

// list returns the pairs of a relation, in ascending order.
func (r relation) list() [][2]int {
	var list [][2]int
	for x, others := range r {
		for _, y := range others.states() {
			list = append(list, [2]int{x, y})
		}
	}
	return list
}

// composed returns the pairs (x, z) such that (x, y) is a pair of r, and (y, z) one of s.
func (r relation) composed(s relation) relation {
	var both relation
	for _, at := range r.list() {
		both[at[0]] |= s[at[1]]
	}
	return both
}

// two are a system c, and a system a that it may refine.
type two struct{ c, a frame }

// twoOf returns two systems, if both are valid.
func twoOf(c, a api.System) (two, api.Errno) {
	of, err := frameOf(c)
	if err != api.OK {
		return two{}, err
	}
	other, err := frameOf(a)
	if err != api.OK {
		return two{}, err
	}
	return two{of, other}, api.OK
}

// follows reports whether y comes, for each step of x, to a state with which the end of the step is a pair of a relation.
func (t two) follows(r relation, x, y int) bool {
	for _, step := range t.c.Steps {
		if step.From == x && t.a.comes[y][step.Label]&r[step.To] == 0 {
			return false
		}
	}
	return true
}

// held returns the pairs of a relation for which it has what a proof must have. It is a proof if these are all.
func (t two) held(r relation) relation {
	var held relation
	for _, at := range r.list() {
		if t.follows(r, at[0], at[1]) {
			held[at[0]] |= 1 << at[1]
		}
	}
	return held
}

// best returns the greatest proof. A pair that is not held in a relation is none of any proof within it.
func (t two) best() relation {
	var r relation
	for x := range t.c.States {
		r[x] = 1<<t.a.States - 1
	}
	for held := t.held(r); held != r; held = t.held(r) {
		r = held
	}
	return r
}

// proof returns the pairs of the greatest proof that are needed from (0, 0) on, if that is one.
func (t two) proof() (relation, bool) {
	best := t.best()
	if !best[0].has(0) {
		return relation{}, false
	}
	var needed relation
	var need func(x, y int)
	need = func(x, y int) {
		if needed[x].has(y) {
			return
		}
		needed[x] |= 1 << y
		for _, step := range t.c.Steps {
			if step.From == x {
				followers := t.a.comes[y][step.Label] & best[step.To]
				need(step.To, followers.least())
			}
		}
	}
	need(0, 0)
	return needed, true
}
