package code

import (
	"cmp"
	"iter"
	"slices"

	"lineal/api"
	"lineal/history"
)

// program is valid code, and a use of it.
type program struct {
	code [][]api.Line
	use  [][]int
}

// worker is how far a thread has come. What it has of a call has a meaning only while a call is open.
type worker struct {
	returned  int // how many of its calls have returned
	open      bool
	call      int // the index of the open call in the history
	line      int // the next one of the open call
	registers [registers]int
}

// deed is a line that was done: of a call, by its index in the history.
type deed struct {
	call, line int
}

// run is where a schedule leads. But for the schedule it has arrays, so that a copy goes on by itself.
type run struct {
	program
	schedule []int
	deeds    [api.MaxRun]deed
	cells    [api.MaxCells]int
	workers  [maxUsers]worker
	calls    [maxUsers * maxTurns]api.Call
	begun    int // how many calls have begun
}

// hasLine reports whether a thread has a line left. An open call has one: the last line of each returns.
func (r run) hasLine(thread int) bool {
	return isBelow(thread, len(r.use)) && r.workers[thread].returned < len(r.use[thread])
}

// left returns the threads that have a line left, in ascending order.
func (r run) left() []int {
	var list []int
	for thread := range r.use {
		if r.hasLine(thread) {
			list = append(list, thread)
		}
	}
	return list
}

func (r run) isOver() bool { return len(r.left()) == 0 }

// step returns the run in which a thread, which has a line left, has done its next one.
func (r run) step(thread int) run {
	at := len(r.schedule)
	// Other runs go on from the same schedule: with no room behind its end, each of them gets a list of its own.
	r.schedule = append(r.schedule[:at:at], thread)
	w := &r.workers[thread]
	if !w.open {
		op := r.use[thread][w.returned]
		r.calls[r.begun] = api.Call{Thread: thread, Op: op, From: 2*at + 1}
		*w = worker{returned: w.returned, open: true, call: r.begun, registers: [registers]int{1: 1}}
		r.begun++
	}
	c := &r.calls[w.call]
	l := r.code[c.Op][w.line]
	r.deeds[at] = deed{w.call, w.line}
	w.line++
	if l.Do == returns {
		c.Says, c.To = w.registers[l.A], 2*at+2
		w.open = false
		w.returned++
	} else {
		w.do(l, &r.cells)
	}
	return r
}

// do does a line that does not return.
func (w *worker) do(l api.Line, cells *[api.MaxCells]int) {
	own := &w.registers
	switch l.Do {
	case reads:
		own[l.A] = cells[l.B]
	case writes:
		cells[l.A] = own[l.B]
	case swaps:
		if cells[l.A] == own[l.B] {
			cells[l.A], own[fitted] = own[l.C], 1
		} else {
			own[fitted] = 0
		}
	case sets:
		own[l.A] = l.B
	case adds:
		own[l.A] = (own[l.B] + own[l.C]) % numbers
	case jumps:
		if own[l.A] == 0 {
			w.line = l.B
		}
	}
}

// history returns the calls that have begun.
func (r run) history() []api.Call { return slices.Clone(r.calls[:r.begun]) }

// breaks reports whether the history is not linearisable, for a specification of the code's calls.
func (r run) breaks(s api.Spec) bool {
	is, _ := history.Linear([]api.Spec{s}, r.history())
	return !is
}

// marked returns the calls in the order of their marked lines, if the run is over and each call has done its own.
func (r run) marked(marks []int) ([]int, bool) {
	var order []int
	for _, d := range slices.Backward(r.deeds[:len(r.schedule)]) {
		op := r.calls[d.call].Op
		if d.line == marks[op] && !slices.Contains(order, d.call) {
			order = append(order, d.call)
		}
	}
	if !r.isOver() || len(order) < r.begun {
		return nil, false
	}
	slices.Reverse(order)
	return order, true
}

// isAnswered reports whether the run, which is over, has a marked order in which a specification answers the calls as they say.
func (r run) isAnswered(s api.Spec, marks []int) bool {
	order, is := r.marked(marks)
	if !is {
		return false
	}
	allowed, _ := history.Allows([]api.Spec{s}, r.history(), order)
	return allowed
}

// play returns the run of a schedule, if that is one.
func (p program) play(schedule []int) (run, bool) {
	if len(schedule) > api.MaxRun {
		return run{}, false
	}
	r := run{program: p}
	for _, thread := range schedule {
		if !r.hasLine(thread) {
			return run{}, false
		}
		r = r.step(thread)
	}
	return r, true
}

// runs goes over the runs that have so many steps, or fewer and are over, in the order of their schedules.
func (p program) runs(steps int) iter.Seq[run] {
	return func(yield func(run) bool) {
		for waiting := []run{{program: p}}; len(waiting) > 0; {
			r := waiting[len(waiting)-1]
			waiting = waiting[:len(waiting)-1]
			left := r.left()
			if len(left) == 0 || len(r.schedule) == steps {
				if !yield(r) {
					return
				}
				continue
			}
			// What waits last goes on first.
			for _, thread := range slices.Backward(left) {
				waiting = append(waiting, r.step(thread))
			}
		}
	}
}

// compareCalls compares calls of runs: by Thread, Op, Says, From and To.
func compareCalls(a, b api.Call) int {
	return cmp.Or(
		cmp.Compare(a.Thread, b.Thread),
		cmp.Compare(a.Op, b.Op),
		cmp.Compare(a.Says, b.Says),
		cmp.Compare(a.From, b.From),
		cmp.Compare(a.To, b.To),
	)
}

func compareHistories(a, b []api.Call) int { return slices.CompareFunc(a, b, compareCalls) }
