package refine

import (
	"cmp"
	"slices"

	"lineal/api"
)

// isPlain reports whether steps are seen ones, of each state at most one with each label.
func isPlain(steps []api.Step) bool {
	for i, step := range steps {
		again := slices.ContainsFunc(steps[:i], func(other api.Step) bool {
			return other.From == step.From && other.Label == step.Label
		})
		if again || isHidden(step.Label) {
			return false
		}
	}
	return true
}

// hide returns steps of which those with a label are hidden, each of them once.
func hide(steps []api.Step, label int) []api.Step {
	var list []api.Step
	for _, step := range steps {
		if step.Label == label {
			step.Label = hidden
		}
		if !slices.Contains(list, step) {
			list = append(list, step)
		}
	}
	return list
}

// together returns the steps of two systems that do their seen steps together, and hidden ones alone, in ascending order.
func together(s, t api.System) []api.Step {
	var list []api.Step
	add := func(a, b api.Step) {
		list = append(list, api.Step{From: a.From*t.States + b.From, Label: a.Label, To: a.To*t.States + b.To})
	}
	for _, a := range s.Steps {
		for _, b := range t.Steps {
			if a.Label == b.Label && isSeen(a.Label) {
				add(a, b)
			}
		}
		for k := range t.States {
			if isHidden(a.Label) {
				add(a, stay(k))
			}
		}
	}
	for _, b := range t.Steps {
		for i := range s.States {
			if isHidden(b.Label) {
				add(stay(i), b)
			}
		}
	}
	slices.SortFunc(list, compareSteps)
	return slices.Compact(list)
}

// stay returns the step of a system that stays where it is while another one does a hidden step.
func stay(state int) api.Step { return api.Step{From: state, Label: hidden, To: state} }

func compareSteps(a, b api.Step) int {
	return cmp.Or(a.From-b.From, a.Label-b.Label, a.To-b.To)
}
