package memory

import (
	"math/bits"
	"slices"

	"lineal/api"
)

// What an act does.
const (
	load = iota + 1
	store
	fence
)

// maxActs is how many acts a thread may have, with its fences.
const maxActs = 7

// maxUnfenced is how many acts that are no fences a program may have.
const maxUnfenced = 8

// program is a program that is valid.
type program [][]api.Act

func isCell(cell int) bool { return 0 <= cell && cell < api.MaxVars }

func isAct(a api.Act) bool {
	switch a.Do {
	case load:
		return isCell(a.Var) && a.Value == 0
	case store:
		return isCell(a.Var) && 0 <= a.Value && a.Value <= api.MaxValue
	case fence:
		return a.Var == 0 && a.Value == 0
	}
	return false
}

// isThread reports whether acts are those of a thread.
func isThread(acts []api.Act) bool {
	if len(acts) > maxActs {
		return false
	}
	for _, a := range acts {
		if !isAct(a) {
			return false
		}
	}
	return len(unfenced(acts)) <= api.MaxActs
}

func isFence(a api.Act) bool { return a.Do == fence }

// unfenced returns the acts that are no fences, in new memory.
func unfenced(acts []api.Act) []api.Act {
	return slices.DeleteFunc(slices.Clone(acts), isFence)
}

// apart returns acts with a fence between any two of them.
func apart(acts []api.Act) []api.Act {
	var list []api.Act
	for i, a := range acts {
		if i > 0 {
			list = append(list, api.Act{Do: fence})
		}
		list = append(list, a)
	}
	return list
}

// loads returns how many loads a program has.
func (p program) loads() int {
	n := 0
	for _, acts := range p {
		for _, a := range acts {
			if a.Do == load {
				n++
			}
		}
	}
	return n
}

// fences returns the threads and places of all fences, in ascending order.
func (p program) fences() [][2]int {
	var list [][2]int
	for thread, acts := range p {
		for place, a := range acts {
			if isFence(a) {
				list = append(list, [2]int{thread, place})
			}
		}
	}
	return list
}

// isEach reports whether a list has each number below n, once.
func isEach(list []int, n int) bool {
	var seen [api.MaxHands]bool
	if len(list) != n {
		return false
	}
	for _, number := range list {
		if number < 0 || number >= n || seen[number] {
			return false
		}
		seen[number] = true
	}
	return true
}

// changed returns a program of which each thread is changed by a function that returns new memory.
func (p program) changed(change func(acts []api.Act) []api.Act) [][]api.Act {
	var list [][]api.Act
	for _, acts := range p {
		list = append(list, change(acts))
	}
	return list
}

// without returns a program without an act of a thread. It shares memory with p, so that it is no result.
func (p program) without(thread, place int) [][]api.Act {
	less := slices.Clone(p)
	less[thread] = slices.Concat(p[thread][:place], p[thread][place+1:])
	return less
}

// use is which threads have acts on a cell, and which of them store into it: a bit for each.
type use struct {
	users, writers uint8
}

// uses returns the uses of the cells on which a program has acts.
func (p program) uses() map[int]use {
	cells := map[int]use{}
	for thread, acts := range p {
		for _, a := range unfenced(acts) {
			u := cells[a.Var]
			u.users |= 1 << thread
			if a.Do == store {
				u.writers |= 1 << thread
			}
			cells[a.Var] = u
		}
	}
	return cells
}

// races reports whether one thread stores into the cell, and another one has an act on it.
func (u use) races() bool { return u.writers != 0 && bits.OnesCount8(u.users) > 1 }
