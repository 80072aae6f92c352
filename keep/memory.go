package keep

import (
	"slices"

	"lineal/api"
)

const (
	maxSteps = 1000 // the greatest number of steps of a plan
	maxEarly = 10   // how many cells can get out early
)

// Memory has cells with a fresh and a kept number each. One that New has not made has no cells, and is as a nil one.
type Memory struct {
	state
	made  bool
	steps int // how many have been done
	era   int // another one begins when power fails, and when a book is opened; a book is good for the one in which it was opened
}

// state is what two memories have in common that are the same. It has arrays alone, so that one that is assigned is independent.
type state struct {
	fresh, kept [api.KeepCells]int
	notes       [api.KeepCells]note
	power       bool
	plan        plan
}

// note is the number of a cell that was flushed last, if there is one that no fence has kept yet.
type note struct {
	noted bool
	n     int
}

// plan says in the place of which step, from now on, power fails (0: it does not), and which cells get out early then.
type plan struct {
	in    int
	early cellList
}

// cellList is a list of cells. Behind them all are 0, so that equal lists are equal values.
type cellList struct {
	count int
	all   [maxEarly]int
}

// cellsOf copies a list that has at most maxEarly cells.
func cellsOf(list []int) cellList {
	c := cellList{count: len(list)}
	copy(c.all[:], list)
	return c
}

func (c cellList) list() []int { return c.all[:c.count] }

// put is a number that is to be kept in a cell.
type put struct{ cell, n int }

func isCell(cell int) bool { return 0 <= cell && cell < api.KeepCells }

func isNumber(n int) bool { return 0 <= n && n <= api.MaxEntry }

func areEarly(list []int) bool {
	return len(list) <= maxEarly && !slices.ContainsFunc(list, func(cell int) bool { return !isCell(cell) })
}

func (m *Memory) isNone() bool { return m == nil || !m.made }

// fault returns the error of a call, of whose arguments each is valid or not.
func (m *Memory) fault(valid ...bool) api.Errno {
	if m.isNone() {
		return api.ErrKeep
	}
	if slices.Contains(valid, false) {
		return api.ErrArg
	}
	return api.OK
}

// faultOfPower is as fault, for calls that need power.
func (m *Memory) faultOfPower(valid ...bool) api.Errno {
	if err := m.fault(valid...); err != api.OK {
		return err
	}
	if !m.power {
		return api.ErrDown
	}
	return api.OK
}

// step counts a step that is done next if there is no error; if it is the one that the plan names, power fails instead.
func (m *Memory) step(valid ...bool) api.Errno {
	if err := m.faultOfPower(valid...); err != api.OK {
		return err
	}
	if m.plan.in == 1 {
		m.lose(m.plan.early)
		return api.ErrDown
	}
	if m.plan.in > 0 {
		m.plan.in--
	}
	m.steps++
	return api.OK
}

// lose is what happens when power fails. The fresh numbers are left as they are: they are lost with the next start.
func (m *Memory) lose(early cellList) {
	for _, cell := range early.list() {
		m.kept[cell] = m.fresh[cell]
	}
	clear(m.notes[:])
	m.plan = plan{}
	m.power = false
	m.era++
}

// keep writes numbers, flushes their cells, and fences; then it goes on with the next numbers. It ends when power fails.
func (m *Memory) keep(groups ...[]put) api.Errno {
	for _, group := range groups {
		for _, p := range group {
			if err := m.Write(p.cell, p.n); err != api.OK {
				return err
			}
		}
		for _, p := range group {
			if err := m.Flush(p.cell); err != api.OK {
				return err
			}
		}
		if err := m.Fence(); err != api.OK {
			return err
		}
	}
	return api.OK
}
