package refine

import (
	"math/bits"
	"slices"

	"lineal/api"
)

// hidden is the label of the steps that are not seen.
const hidden = 0

func isHidden(label int) bool { return label == hidden }

func isSeen(label int) bool { return hidden < label && label <= api.MaxLabel }

func isLabel(label int) bool { return isHidden(label) || isSeen(label) }

func isState(s api.System, state int) bool { return 0 <= state && state < s.States }

func isStep(s api.System, step api.Step) bool {
	return isState(s, step.From) && isLabel(step.Label) && isState(s, step.To)
}

// set is a set of states, a bit for each.
type set uint8

func (s set) has(state int) bool { return s>>state&1 == 1 }

// least returns the least state of a set that is not empty.
func (s set) least() int { return bits.TrailingZeros8(uint8(s)) }

// states returns the states of a set, in ascending order.
func (s set) states() []int {
	var list []int
	for state := range api.MaxSystem {
		if s.has(state) {
			list = append(list, state)
		}
	}
	return list
}

// frame is a system that is valid, with the states to which each state comes by each label.
type frame struct {
	api.System
	comes [api.MaxSystem][api.MaxLabel + 1]set
}

// frameOf returns the frame of a system, if that is valid.
func frameOf(s api.System) (frame, api.Errno) {
	if !Valid(s) {
		return frame{}, api.ErrSystem
	}
	f := frame{System: s}
	for state := range f.States {
		f.comes[state][hidden] = f.led(state, isHidden)
	}
	for _, step := range f.Steps {
		for state := range f.States {
			if isSeen(step.Label) && f.comes[state][hidden].has(step.From) {
				f.comes[state][step.Label] |= f.comes[step.To][hidden]
			}
		}
	}
	return f, api.OK
}

// led returns the states to which steps with one kind of labels lead from a state, and the state itself.
func (f frame) led(from int, are func(label int) bool) set {
	var found set
	var visit func(state int)
	visit = func(state int) {
		if found.has(state) {
			return
		}
		found |= 1 << state
		for _, step := range f.Steps {
			if step.From == state && are(step.Label) {
				visit(step.To)
			}
		}
	}
	visit(from)
	return found
}

// reached returns the states to which any steps lead from the state 0, and this state.
func (f frame) reached() set { return f.led(0, isLabel) }

// isStuck reports whether a state has no step.
func (f frame) isStuck(state int) bool {
	return !slices.ContainsFunc(f.Steps, func(step api.Step) bool { return step.From == state })
}

// after returns the states to which those of a set come by a label.
func (f frame) after(from set, label int) set {
	var to set
	for _, state := range from.states() {
		to |= f.comes[state][label]
	}
	return to
}
