package refine

import (
	"slices"

	"lineal/api"
)

// maxTrace is how many labels a trace that is asked about may have.
const maxTrace = 1000

// maxTraces is how many labels those traces may have that are listed.
const maxTraces = 5

// pair is a set of states of a system beside one of another system: those to which the same trace leads.
type pair [2]set

// begin returns the states to which the empty trace leads.
func (f frame) begin() set { return f.comes[0][hidden] }

// isTrace reports whether a list of seen labels is a trace.
func (f frame) isTrace(trace []int) bool {
	at := f.begin()
	for _, label := range trace {
		at = f.after(at, label)
	}
	return at != 0
}

// longer returns a trace with one more label; it is new memory, since several traces begin with this one.
func longer(trace []int, label int) []int {
	return append(slices.Clone(trace), label)
}

// traces returns all traces of at most `most` labels, in ascending order.
func (f frame) traces(most int) [][]int {
	var list [][]int
	var visit func(trace []int, at set)
	visit = func(trace []int, at set) {
		list = append(list, trace)
		if len(trace) == most {
			return
		}
		for label := 1; label <= api.MaxLabel; label++ {
			if to := f.after(at, label); to != 0 {
				visit(longer(trace, label), to)
			}
		}
	}
	visit(nil, f.begin())
	return list
}

// shows returns the first of the shortest traces of c that are none of a, if there is one.
// The pairs are found in the order of the traces, by length, then label by label, and each with the first trace that leads there.
func (t two) shows() ([]int, bool) {
	found := []pair{{t.c.begin(), t.a.begin()}}
	traces := [][]int{nil}
	known := map[pair]bool{found[0]: true}
	for i := 0; i < len(found); i++ {
		for label := 1; label <= api.MaxLabel; label++ {
			to := pair{t.c.after(found[i][0], label), t.a.after(found[i][1], label)}
			if to[0] == 0 || known[to] {
				continue
			}
			trace := longer(traces[i], label)
			if to[1] == 0 {
				return trace, true
			}
			known[to] = true
			found = append(found, to)
			traces = append(traces, trace)
		}
	}
	return nil, false
}

// seen returns the plain system with the same traces, if it has no more states than systems have.
func (f frame) seen() (api.System, bool) {
	sets := []set{f.begin()}
	var steps []api.Step
	for i := 0; i < len(sets); i++ {
		for label := 1; label <= api.MaxLabel; label++ {
			to := f.after(sets[i], label)
			if to == 0 {
				continue
			}
			if !slices.Contains(sets, to) {
				sets = append(sets, to)
			}
			if len(sets) > api.MaxSystem {
				return api.System{}, false
			}
			steps = append(steps, api.Step{From: i, Label: label, To: slices.Index(sets, to)})
		}
	}
	return api.System{States: len(sets), Steps: steps}, true
}
