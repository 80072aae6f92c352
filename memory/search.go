package memory

import "slices"

// ended reports whether all acts are done, and all buffers are empty.
func (p program) ended(s state) bool {
	for thread, acts := range p {
		if s.next(thread) != len(acts) || s.held[thread] != 0 {
			return false
		}
	}
	return true
}

// settled does the fences that can be done, on any kind of memory: nothing in front of them is left to do.
// They change no cell and hinder no other act, so that all outcomes stay if they are done at once, with fewer states on the way.
func (p program) settled(s state) state {
	for thread, acts := range p {
		for s.held[thread] == 0 && s.next(thread) < len(acts) && isFence(acts[s.next(thread)]) {
			s.done[thread] |= 1 << s.next(thread)
		}
	}
	return s
}

// outcome returns what the loads have read, and the cells.
func (p program) outcome(s state) []int {
	var list []int
	for thread, acts := range p {
		for place, a := range acts {
			if a.Do == load {
				list = append(list, int(s.read[thread][place]))
			}
		}
	}
	for _, value := range s.cells {
		list = append(list, int(value))
	}
	return list
}

// outcomes returns all outcomes of a program on a memory, in ascending order.
// No two states in which all has ended have the same one: they differ in what was read, or in the cells.
func (p program) outcomes(m memory) [][]int {
	var list [][]int
	seen := map[state]bool{}
	for left := []state{{}}; len(left) > 0; {
		s := p.settled(left[len(left)-1])
		left = left[:len(left)-1]
		if seen[s] {
			continue
		}
		seen[s] = true
		if p.ended(s) {
			list = append(list, p.outcome(s))
		}
		for thread := range p {
			left = m.steps(left, s, thread)
		}
	}
	slices.SortFunc(list, slices.Compare)
	return list
}

// play does the acts of a schedule, and reports whether it is one.
func (m strictMemory) play(schedule []int) (state, bool) {
	var s state
	for _, thread := range schedule {
		if thread < 0 || thread >= len(m.program) {
			return state{}, false
		}
		next := m.steps(nil, s, thread)
		if len(next) == 0 {
			return state{}, false
		}
		s = next[0]
	}
	return s, m.ended(s)
}

// agrees reports whether the loads that are done have read what an outcome says, and, if all has ended, the cells are so too.
func (p program) agrees(s state, outcome []int) bool {
	at := 0
	for thread, acts := range p {
		for place, a := range acts {
			if a.Do != load {
				continue
			}
			if s.did(thread, place) && int(s.read[thread][place]) != outcome[at] {
				return false
			}
			at++
		}
	}
	return !p.ended(s) || slices.Equal(p.outcome(s), outcome)
}

// find returns the first schedule that leads on from a state to an outcome, if there is one. From the states in dead none does.
func (m strictMemory) find(s state, outcome []int, dead map[state]bool) ([]int, bool) {
	if dead[s] || !m.agrees(s, outcome) {
		return nil, false
	}
	if m.ended(s) {
		return nil, true
	}
	for thread := range m.program {
		for _, next := range m.steps(nil, s, thread) {
			if rest, found := m.find(next, outcome, dead); found {
				return append([]int{thread}, rest...), true
			}
		}
	}
	dead[s] = true
	return nil, false
}

// schedules returns in how many ways the acts of the threads can be put into one list.
func (p program) schedules() int {
	ways, listed := 1, 0
	for _, acts := range p {
		for i := range acts {
			listed++
			// Exact: the last i + 1 factors are neighbouring numbers, whose product the product of 1 to i + 1 divides.
			ways = ways * listed / (i + 1)
		}
	}
	return ways
}

// isSame reports whether lists of outcomes are the same.
func isSame(a, b [][]int) bool { return slices.EqualFunc(a, b, slices.Equal) }
