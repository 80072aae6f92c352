package delay

import (
	"cmp"
	"slices"

	"lineal/api"
)

// What an act of a program does.
const (
	load = iota + 1
	store
	fence
)

const (
	// maxPrice is the greatest price.
	maxPrice = 100
	// maxProved is the greatest cost that prices may be asked to prove.
	maxProved = 1000
	// maxUnfenced is how many acts that are no fences a program may have.
	maxUnfenced = 8
)

// holds reports whether a fence holds a pair.
func holds(f [2]int, pair [3]int) bool { return f[0] == pair[0] && pair[1] <= f[1] && f[1] < pair[2] }

// isHeld reports whether some of the fences holds a pair.
func isHeld(fences [][2]int, pair [3]int) bool {
	return slices.ContainsFunc(fences, func(f [2]int) bool { return holds(f, pair) })
}

// holdAll reports whether fences hold all pairs of a list.
func holdAll(fences [][2]int, pairs [][3]int) bool {
	isLoose := func(pair [3]int) bool { return !isHeld(fences, pair) }
	return !slices.ContainsFunc(pairs, isLoose)
}

// fences returns all fences, in ascending order.
func (x accesses) fences() [][2]int {
	var list [][2]int
	for t, thread := range x {
		for g := range len(thread) - 1 {
			list = append(list, [2]int{t, g})
		}
	}
	return list
}

// areFences reports whether a list has different fences, in ascending order.
func (x accesses) areFences(list [][2]int) bool {
	all := x.fences()
	for _, f := range list {
		at := slices.Index(all, f)
		if at < 0 {
			return false
		}
		// The next one must be behind this one.
		all = all[at+1:]
	}
	return true
}

// areCosts reports whether lists have a cost for each fence.
func (x accesses) areCosts(costs [][]int) bool {
	isNone := func(cost int) bool { return cost < 1 || cost > api.MaxCost }
	if len(costs) != len(x) {
		return false
	}
	for t, thread := range x {
		if len(costs[t]) != max(0, len(thread)-1) || slices.ContainsFunc(costs[t], isNone) {
			return false
		}
	}
	return true
}

// costOf returns the cost of fences.
func costOf(fences [][2]int, costs [][]int) int {
	sum := 0
	for _, f := range fences {
		sum += costs[f[0]][f[1]]
	}
	return sum
}

// choices returns all lists of some of the fences. The lists with the first fence come before those without it,
// so that of two lists, of which none is the beginning of the other one, the lesser one comes first.
func choices(fences [][2]int) [][][2]int {
	if len(fences) == 0 {
		return [][][2]int{nil}
	}
	without := choices(fences[1:])
	var with [][][2]int
	for _, list := range without {
		with = append(with, slices.Concat(fences[:1], list))
	}
	return append(with, without...)
}

// offer is accesses, with the pairs that are needed, and what the fences cost.
type offer struct {
	accesses
	needed [][3]int
	costs  [][]int
}

// offerOf returns accesses with costs, if these are valid.
func offerOf(x [][]api.Access, costs [][]int) (offer, api.Errno) {
	of, err := accessesOf(x)
	if err != api.OK {
		return offer{}, err
	}
	if !of.areCosts(costs) {
		return offer{}, api.ErrArg
	}
	return offer{of, of.onCircles(), costs}, api.OK
}

// cost returns the cost of fences.
func (o offer) cost(fences [][2]int) int { return costOf(fences, o.costs) }

// cheapest returns the first of the cheapest lists of fences that are enough. There are some: all fences are enough.
// None of the cheapest is the beginning of another one, since each fence costs something.
func (o offer) cheapest() [][2]int {
	enough := slices.DeleteFunc(choices(o.fences()), func(list [][2]int) bool { return !holdAll(list, o.needed) })
	return slices.MinFunc(enough, func(a, b [][2]int) int { return cmp.Compare(o.cost(a), o.cost(b)) })
}

// left returns what is left of the cost of a fence, behind the prices of the needed pairs that it holds.
func (o offer) left(f [2]int, prices []int) int {
	left := o.costs[f[0]][f[1]]
	for i, pair := range o.needed {
		if holds(f, pair) {
			left -= prices[i]
		}
	}
	return left
}

// most returns by how much the price of a pair may be raised: what the fences that hold it have left.
func (o offer) most(pair [3]int, prices []int) int {
	most := api.MaxCost
	for _, f := range o.fences() {
		if holds(f, pair) {
			most = min(most, o.left(f, prices))
		}
	}
	return most
}

// prices returns prices that prove the least cost: together they are as much as prices can be.
// Of the pairs without a price those that end first get as much as they may. What that takes from others is no more than it gives:
// all later pairs that share a fence with such a pair share its last one, and the one of them that begins first shares all that the others
// share, so that what it could have can be moved to the pair, one for one.
func (o offer) prices() []int {
	prices := make([]int, len(o.needed))
	for end := range api.MaxAccesses {
		for i, pair := range o.needed {
			if pair[2] == end {
				prices[i] = o.most(pair, prices)
			}
		}
	}
	return prices
}

// arePrices reports whether a list has a price for each needed pair.
func (o offer) arePrices(list []int) bool {
	isNone := func(price int) bool { return !isBelow(price, maxPrice+1) }
	return len(list) == len(o.needed) && !slices.ContainsFunc(list, isNone)
}

// isProved reports whether prices prove a cost.
func (o offer) isProved(prices []int, cost int) bool {
	isOverdrawn := func(f [2]int) bool { return o.left(f, prices) < 0 }
	sum := 0
	for _, price := range prices {
		sum += price
	}
	return sum >= cost && !slices.ContainsFunc(o.fences(), isOverdrawn)
}

// program returns the program with the accesses, and fences.
func (x accesses) program(fences [][2]int) [][]api.Act {
	var program [][]api.Act
	stored := 0
	for t, thread := range x {
		var acts []api.Act
		for i, a := range thread {
			act := api.Act{Do: load, Var: a.Var}
			if a.Write {
				act.Do, act.Value = store, stored%api.MaxValue+1
				stored++
			}
			acts = append(acts, act)
			if slices.Contains(fences, [2]int{t, i}) {
				acts = append(acts, api.Act{Do: fence})
			}
		}
		program = append(program, acts)
	}
	return program
}
