// Package spec is layer 1: sequential specifications, machines that answer calls. See shared/doc/01-spec.md.
package spec

import (
	"slices"

	"lineal/api"
)

// Valid reports whether a specification is valid.
func Valid(s api.Spec) bool {
	if s.States < 1 || s.States > api.MaxStates || s.Ops < 1 || s.Ops > api.MaxOps {
		return false
	}
	m := machine(s)
	return m.isTable(s.Next, m.isState) && m.isTable(s.Says, isAnswer)
}

// Run returns the answers of a word from a state, and the state to which it leads.
func Run(s api.Spec, from int, word []int) (answers []int, to int, err api.Errno) {
	m, err := checked(s, from)
	if err != api.OK {
		return nil, 0, err
	}
	if !m.isWord(word) {
		return nil, 0, api.ErrArg
	}
	answers, to = m.run(from, word...)
	return answers, to, api.OK
}

// Tells reports whether a word tells two states apart.
func Tells(s api.Spec, a, b int, word []int) (bool, api.Errno) {
	m, err := checked(s, a, b)
	if err != api.OK {
		return false, err
	}
	if !m.isWord(word) {
		return false, api.ErrArg
	}
	one, _ := m.run(a, word...)
	other, _ := m.run(b, word...)
	return !slices.Equal(one, other), api.OK
}

// Same reports whether no list of calls tells two states apart.
func Same(s api.Spec, a, b int) (bool, api.Errno) {
	m, err := checked(s, a, b)
	if err != api.OK {
		return false, err
	}
	return m.same(a, b), api.OK
}

// Word returns the shortest word that tells two states apart, of several the first one.
func Word(s api.Spec, a, b int) ([]int, api.Errno) {
	m, err := checked(s, a, b)
	if err != api.OK {
		return nil, err
	}
	word, differ := apart(m, m, pair{a, b})
	if !differ {
		return nil, api.ErrNone
	}
	return word, api.OK
}

// Classes returns for each state the least state that is the same.
func Classes(s api.Spec) ([]int, api.Errno) {
	m, err := checked(s)
	if err != api.OK {
		return nil, err
	}
	return m.classes(), api.OK
}

// Reached returns the states that are reached, in ascending order.
func Reached(s api.Spec) ([]int, api.Errno) {
	m, err := checked(s)
	if err != api.OK {
		return nil, err
	}
	return m.reached(), api.OK
}

// Way returns the shortest word that leads from 0 to a state, of several the first one.
func Way(s api.Spec, to int) ([]int, api.Errno) {
	m, err := checked(s, to)
	if err != api.OK {
		return nil, err
	}
	for state, word := range m.ways() {
		if state == to {
			return word, api.OK
		}
	}
	return nil, api.ErrNone
}

// Least returns the specification whose states are the classes of the states that are reached, in the order in which they are reached.
func Least(s api.Spec) (api.Spec, api.Errno) {
	m, err := checked(s)
	if err != api.OK {
		return api.Spec{}, err
	}
	class := m.classes()
	var kept []int
	for state := range m.ways() {
		if !slices.Contains(kept, class[state]) {
			kept = append(kept, class[state])
		}
	}
	least := api.Spec{States: len(kept), Ops: s.Ops}
	for _, state := range kept {
		next := make([]int, s.Ops)
		for op, to := range s.Next[state] {
			next[op] = slices.Index(kept, class[to])
		}
		least.Next = append(least.Next, next)
		least.Says = append(least.Says, slices.Clone(s.Says[state]))
	}
	return least, api.OK
}

// Alike reports whether two specifications have as many calls, and no list of calls has different answers from their first states.
func Alike(s, t api.Spec) (bool, api.Errno) {
	_, err := Unlike(s, t)
	if err == api.ErrSpec {
		return false, err
	}
	return err == api.ErrNone, api.OK
}

// Unlike returns the shortest word that has different answers from the first states of two specifications, of several the first one.
func Unlike(s, t api.Spec) ([]int, api.Errno) {
	if !Valid(s) || !Valid(t) {
		return nil, api.ErrSpec
	}
	if s.Ops != t.Ops {
		return nil, api.ErrArg
	}
	word, differ := apart(machine(s), machine(t), pair{0, 0})
	if !differ {
		return nil, api.ErrNone
	}
	return word, api.OK
}

// Commute reports whether two calls commute in a state.
func Commute(s api.Spec, state, a, b int) (bool, api.Errno) {
	return told(s, machine.commute, state, a, b)
}

// Overwrites reports whether the call b overwrites the call a in a state.
func Overwrites(s api.Spec, state, a, b int) (bool, api.Errno) {
	return told(s, machine.overwrites, state, a, b)
}

// told returns what a machine answers about two calls in a state.
func told(s api.Spec, asked func(m machine, state, a, b int) bool, state, a, b int) (bool, api.Errno) {
	m, err := checked(s, state)
	if err != api.OK {
		return false, err
	}
	if !all(m.isCall, a, b) {
		return false, api.ErrArg
	}
	return asked(m, state, a, b), api.OK
}

// Meddles returns the first state that is reached, and two calls, that neither commute there nor overwrite one another.
func Meddles(s api.Spec) (state, a, b int, err api.Errno) {
	m, err := checked(s)
	if err != api.OK {
		return 0, 0, 0, err
	}
	for _, state := range m.reached() {
		for a := range m.Ops {
			for b := a; b < m.Ops; b++ {
				if m.meddle(state, a, b) {
					return state, a, b, api.OK
				}
			}
		}
	}
	return 0, 0, 0, api.ErrNone
}

// Reads reports whether a call leaves each state that is reached the same.
func Reads(s api.Spec, op int) (bool, api.Errno) {
	m, err := checked(s)
	if err != api.OK {
		return false, err
	}
	if !m.isCall(op) {
		return false, api.ErrArg
	}
	for state := range m.ways() {
		if !m.same(state, m.Next[state][op]) {
			return false, api.OK
		}
	}
	return true, api.OK
}

// Both returns the specification of two side by side: the calls of s come first, then those of t.
func Both(s, t api.Spec) (api.Spec, api.Errno) {
	if !Valid(s) || !Valid(t) {
		return api.Spec{}, api.ErrSpec
	}
	both := api.Spec{States: s.States * t.States, Ops: s.Ops + t.Ops}
	if both.States > api.MaxStates || both.Ops > api.MaxOps {
		return api.Spec{}, api.ErrLimit
	}
	for i := range s.States {
		for k := range t.States {
			next := make([]int, 0, both.Ops)
			for _, to := range s.Next[i] {
				next = append(next, to*t.States+k)
			}
			for _, to := range t.Next[k] {
				next = append(next, i*t.States+to)
			}
			both.Next = append(both.Next, next)
			both.Says = append(both.Says, slices.Concat(s.Says[i], t.Says[k]))
		}
	}
	return both, api.OK
}

// Begun returns the specification in which the states 0 and state are exchanged.
func Begun(s api.Spec, state int) (api.Spec, api.Errno) {
	if _, err := checked(s, state); err != api.OK {
		return api.Spec{}, err
	}
	names := make([]int, s.States)
	for i := range names {
		names[i] = i
	}
	names[0], names[state] = state, 0
	begun := api.Spec{States: s.States, Ops: s.Ops}
	for _, old := range names {
		next := make([]int, s.Ops)
		for op, to := range s.Next[old] {
			next[op] = names[to]
		}
		begun.Next = append(begun.Next, next)
		begun.Says = append(begun.Says, slices.Clone(s.Says[old]))
	}
	return begun, api.OK
}
