package memory

import (
	"math/bits"

	"lineal/api"
)

// Kinds of memory.
const (
	strict = iota + 1
	buffers
	loose
)

// state is where a program is: for each thread the acts that are done, and the stores that are in its buffer, a bit for each;
// the cells; and for each load that is done what it has read.
// A thread puts its stores into its buffer as its program has them, so that the bits tell their order too.
type state struct {
	done, held [api.MaxHands]uint8
	cells      [api.MaxVars]uint8
	read       [api.MaxHands][maxActs]uint8
}

func (s state) did(thread, place int) bool { return s.done[thread]>>place&1 == 1 }

// next returns the place of the first act of a thread that is not done; behind the last act, if all are.
func (s state) next(thread int) int { return bits.TrailingZeros8(^s.done[thread]) }

// do does an act of a thread with the cells.
func (p program) do(s state, thread, place int) state {
	act := p[thread][place]
	switch act.Do {
	case load:
		s.read[thread][place] = s.cells[act.Var]
	case store:
		s.cells[act.Var] = uint8(act.Value)
	}
	s.done[thread] |= 1 << place
	return s
}

// memory is a kind of memory with a program: it adds to a list the states to which one step of a thread, or of its buffer, can lead.
type memory interface {
	steps(list []state, s state, thread int) []state
}

// memoryOf returns a kind of memory with a program, if there is such a kind.
func memoryOf(p program, kind int) (memory, bool) {
	switch kind {
	case strict:
		return strictMemory{p}, true
	case buffers:
		return bufferMemory{p}, true
	case loose:
		return looseMemory{p}, true
	}
	return nil, false
}

type strictMemory struct{ program }

func (m strictMemory) steps(list []state, s state, thread int) []state {
	place := s.next(thread)
	if place == len(m.program[thread]) {
		return list
	}
	return append(list, m.do(s, thread, place))
}

type bufferMemory struct{ program }

func (m bufferMemory) steps(list []state, s state, thread int) []state {
	if s.held[thread] != 0 {
		list = append(list, m.taken(s, thread))
	}
	place := s.next(thread)
	if place == len(m.program[thread]) {
		return list
	}
	act := m.program[thread][place]
	next := s
	next.done[thread] |= 1 << place
	switch act.Do {
	case load:
		next.read[thread][place] = m.sees(s, thread, act.Var)
	case store:
		next.held[thread] |= 1 << place
	case fence:
		if s.held[thread] != 0 {
			return list
		}
	}
	return append(list, next)
}

// taken takes the first store out of the buffer of a thread, and stores it into its cell.
func (m bufferMemory) taken(s state, thread int) state {
	place := bits.TrailingZeros8(s.held[thread])
	s.held[thread] &^= 1 << place
	return m.do(s, thread, place)
}

// sees returns what a thread reads from a cell.
func (m bufferMemory) sees(s state, thread, cell int) uint8 {
	for place := maxActs - 1; place >= 0; place-- {
		if s.held[thread]>>place&1 == 1 && m.program[thread][place].Var == cell {
			return uint8(m.program[thread][place].Value)
		}
	}
	return s.cells[cell]
}

type looseMemory struct{ program }

func (m looseMemory) steps(list []state, s state, thread int) []state {
	for place := range m.program[thread] {
		if !s.did(thread, place) && m.ready(s, thread, place) {
			list = append(list, m.do(s, thread, place))
		}
	}
	return list
}

// ready reports whether a thread has done all acts in front of an act that must come before it.
func (m looseMemory) ready(s state, thread, place int) bool {
	act := m.program[thread][place]
	for i, front := range m.program[thread][:place] {
		if !s.did(thread, i) && (isFence(act) || isFence(front) || front.Var == act.Var) {
			return false
		}
	}
	return true
}
