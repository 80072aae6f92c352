package memory_test

import (
	"math/rand/v2"
	"slices"
	"testing"

	"lineal/api"
	"lineal/memory"
)

// world is where a program is, written as the document writes it: what is done, what was read, the cells, and real buffers.
type world struct {
	done    [3][7]bool
	read    [3][7]int
	cells   [3]int
	buffers [3][]api.Act
	// order is the threads of the acts, as they were done.
	order []int
}

func (w world) with(thread, place int) world {
	w.done[thread][place] = true
	w.order = append(slices.Clone(w.order), thread)
	return w
}

// direct does an act with the cells.
func (w world) direct(p [][]api.Act, thread, place int) world {
	switch a := p[thread][place]; a.Do {
	case 1:
		w.read[thread][place] = w.cells[a.Var]
	case 2:
		w.cells[a.Var] = a.Value
	}
	return w.with(thread, place)
}

// outcome returns the outcome of a world, if all has ended in it.
func (w world) outcome(p [][]api.Act) ([]int, bool) {
	var list []int
	for thread, acts := range p {
		for place, a := range acts {
			if !w.done[thread][place] {
				return nil, false
			}
			if a.Do == 1 {
				list = append(list, w.read[thread][place])
			}
		}
		if len(w.buffers[thread]) > 0 {
			return nil, false
		}
	}
	return append(list, w.cells[:]...), true
}

// first returns the place of the first act of a thread that is not done.
func (w world) first(p [][]api.Act, thread int) (int, bool) {
	place := slices.Index(w.done[thread][:len(p[thread])], false)
	return place, place >= 0
}

func strictSteps(p [][]api.Act, w world, thread int) []world {
	if place, is := w.first(p, thread); is {
		return []world{w.direct(p, thread, place)}
	}
	return nil
}

func bufferSteps(p [][]api.Act, w world, thread int) []world {
	var list []world
	buffer := w.buffers[thread]
	if len(buffer) > 0 {
		next := w
		next.cells[buffer[0].Var] = buffer[0].Value
		next.buffers[thread] = buffer[1:]
		list = append(list, next)
	}
	place, is := w.first(p, thread)
	if !is {
		return list
	}
	next, act := w.with(thread, place), p[thread][place]
	switch act.Do {
	case 1:
		next.read[thread][place] = w.cells[act.Var]
		for _, stored := range buffer {
			if stored.Var == act.Var {
				next.read[thread][place] = stored.Value
			}
		}
	case 2:
		next.buffers[thread] = append(slices.Clone(buffer), act)
	case 3:
		if len(buffer) > 0 {
			return list
		}
	}
	return append(list, next)
}

func looseSteps(p [][]api.Act, w world, thread int) []world {
	var list []world
	for place, act := range p[thread] {
		can := !w.done[thread][place]
		for i, front := range p[thread][:place] {
			if act.Do == 3 || front.Do == 3 || front.Var == act.Var {
				can = can && w.done[thread][i]
			}
		}
		if can {
			list = append(list, w.direct(p, thread, place))
		}
	}
	return list
}

// runs goes over the worlds in which all has ended, in the order of the threads that act. It looks at each way apart.
func runs(p [][]api.Act, steps func([][]api.Act, world, int) []world, w world, yield func(world, []int)) {
	if outcome, ended := w.outcome(p); ended {
		yield(w, outcome)
		return
	}
	for thread := range p {
		for _, next := range steps(p, w, thread) {
			runs(p, steps, next, yield)
		}
	}
}

// shows returns what a kind of memory shows, in ascending order.
func shows(p [][]api.Act, kind int) [][]int {
	var list [][]int
	steps := []func([][]api.Act, world, int) []world{strictSteps, bufferSteps, looseSteps}[kind-1]
	runs(p, steps, world{}, func(_ world, outcome []int) { list = append(list, outcome) })
	slices.SortFunc(list, slices.Compare)
	return slices.CompactFunc(list, slices.Equal)
}

// alphabet is some acts.
func alphabet() []api.Act {
	return slices.Concat(program("x y x1 y2 x3 -")...)
}

// pairs returns all programs of two threads that have two acts each.
func pairs() [][][]api.Act {
	var list [][][]api.Act
	acts := alphabet()
	for _, a := range acts {
		for _, b := range acts {
			for _, c := range acts {
				for _, d := range acts {
					list = append(list, [][]api.Act{{a, b}, {c, d}})
				}
			}
		}
	}
	return list
}

// drawn returns some programs, of threads that have at most `most` acts each, and at most `all` together.
func drawn(seed uint64, count, most, all int) [][][]api.Act {
	r := rand.New(rand.NewPCG(4, seed))
	var list [][][]api.Act
	for len(list) < count {
		p, cells, n := make([][]api.Act, 1+r.IntN(3)), 1+r.IntN(3), 0
		for thread := range p {
			for range r.IntN(most + 1) {
				p[thread] = append(p[thread], act(r, cells))
				n++
			}
		}
		if n <= all && memory.Valid(p) {
			list = append(list, p)
		}
	}
	return list
}

// act returns some act, a fence for one in five.
func act(r *rand.Rand, cells int) api.Act {
	switch r.IntN(5) {
	case 0:
		return api.Act{Do: 3}
	case 1, 2:
		return api.Act{Do: 1, Var: r.IntN(cells)}
	}
	return api.Act{Do: 2, Var: r.IntN(cells), Value: r.IntN(4)}
}

// large returns programs that are as large as programs are.
func large(seed uint64, count int) [][][]api.Act {
	r := rand.New(rand.NewPCG(5, seed))
	shapes := [][]int{{4, 4, 0}, {4, 4}, {3, 3, 2}, {4, 3, 1}, {2, 4, 2}, {1, 4, 3}}
	var list [][][]api.Act
	for range count {
		var p [][]api.Act
		for _, n := range shapes[r.IntN(len(shapes))] {
			var acts []api.Act
			for len(acts) < n {
				if a := act(r, 3); a.Do != 3 {
					acts = append(acts, a)
				}
			}
			for range r.IntN(4) {
				acts = slices.Insert(acts, r.IntN(len(acts)+1), api.Act{Do: 3})
			}
			p = append(p, acts)
		}
		list = append(list, p)
	}
	return list
}

func outcomes(t *testing.T, p [][]api.Act, kind int) [][]int {
	t.Helper()
	list, err := memory.Outcomes(p, kind)
	if err != api.OK || !slices.IsSortedFunc(list, slices.Compare) {
		t.Fatalf("Outcomes(%v, %d): %v, %d", p, kind, list, err)
	}
	return list
}

// has reports whether a list of lists has a list.
func has(lists [][]int, list []int) bool {
	return slices.ContainsFunc(lists, func(l []int) bool { return slices.Equal(l, list) })
}

// without returns the lists that others do not have.
func without(lists, others [][]int) [][]int {
	return slices.DeleteFunc(slices.Clone(lists), func(l []int) bool { return has(others, l) })
}

func TestOutcomesAreWhatStepsShow(t *testing.T) { // P4.2, P4.6
	for _, p := range slices.Concat(pairs(), drawn(1, 1500, 4, 6), drawn(2, 30, 5, 8)) {
		var all [4][][]int
		for kind := strict; kind <= loose; kind++ {
			all[kind] = shows(p, kind)
			if l := outcomes(t, p, kind); !same(l, all[kind]) {
				t.Fatalf("%v: Outcomes(%d): %v, not %v", p, kind, l, all[kind])
			}
		}
		for kind := strict; kind <= loose; kind++ {
			for other := strict; other <= loose; other++ {
				if l, err := memory.More(p, kind, other); !same(l, without(all[kind], all[other])) || err != api.OK {
					t.Fatalf("%v: More(%d, %d): %v, %d", p, kind, other, l, err)
				}
			}
		}
		for _, outcome := range all[loose] {
			for kind := strict; kind <= loose; kind++ {
				if can, err := memory.Can(p, kind, outcome); can != has(all[kind], outcome) || err != api.OK {
					t.Fatalf("%v: Can(%d, %v): %v, %d", p, kind, outcome, can, err)
				}
			}
		}
		if bare, err := memory.Bare(p); bare != same(all[strict], all[loose]) || err != api.OK {
			t.Fatalf("%v: Bare: %v, %d", p, bare, err)
		}
	}
}

// TestLargePrograms checks that the largest programs show what the steps show from state to state, on loose memory.
func TestLargePrograms(t *testing.T) { // P4.2
	for _, p := range large(1, 300) {
		seen := map[string]bool{}
		var list [][]int
		for left := []world{{}}; len(left) > 0; {
			w := left[len(left)-1]
			left = left[:len(left)-1]
			name := spell(w)
			if seen[name] {
				continue
			}
			seen[name] = true
			if outcome, ended := w.outcome(p); ended {
				list = append(list, outcome)
			}
			for thread := range p {
				left = append(left, looseSteps(p, w, thread)...)
			}
		}
		slices.SortFunc(list, slices.Compare)
		if l := outcomes(t, p, loose); !same(l, list) {
			t.Fatalf("%v: Outcomes: %d, not %d", p, len(l), len(list))
		}
	}
}

// spell names a world without buffers, and without its order.
func spell(w world) string {
	var name []byte
	for thread := range w.done {
		for place, done := range w.done[thread] {
			name = append(name, '-')
			if done {
				name[len(name)-1] = byte('0' + w.read[thread][place])
			}
		}
	}
	for _, value := range w.cells {
		name = append(name, byte('0'+value))
	}
	return string(name)
}

func TestMoreAndMore(t *testing.T) { // P4.8
	for _, p := range slices.Concat(drawn(3, 1500, 7, 21), large(2, 500)) {
		a, b, c := outcomes(t, p, strict), outcomes(t, p, buffers), outcomes(t, p, loose)
		if len(a) == 0 || len(without(a, b)) > 0 || len(without(b, c)) > 0 {
			t.Fatalf("%v: %v, %v, %v", p, a, b, c)
		}
	}
}

func TestMoreFences(t *testing.T) { // P4.5, P4.8
	for _, p := range slices.Concat(drawn(4, 300, 6, 12), large(3, 60)) {
		var before [4][][]int
		for kind := strict; kind <= loose; kind++ {
			before[kind] = outcomes(t, p, kind)
		}
		for thread, acts := range p {
			for place := range len(acts) + 1 {
				fenced, err := memory.Fenced(p, thread, place)
				if len(acts) == 7 {
					if err != api.ErrArg || len(fenced) > 0 {
						t.Fatalf("Fenced(%v, %d, %d): %v, %d", p, thread, place, fenced, err)
					}
					continue
				}
				for kind := strict; kind <= loose; kind++ {
					if l := outcomes(t, fenced, kind); err != api.OK || len(without(l, before[kind])) > 0 || kind == strict && !same(l, before[kind]) {
						t.Fatalf("%v: Fenced(%d, %d) shows %v, not %v", p, thread, place, l, before[kind])
					}
				}
			}
		}
	}
}

func TestNeededFences(t *testing.T) { // P4.6
	for _, p := range slices.Concat(pairs()[:300], drawn(5, 600, 7, 15), large(4, 60)) {
		for kind := strict; kind <= loose; kind++ {
			var want [][2]int
			before := outcomes(t, p, kind)
			for thread, acts := range p {
				for place, a := range acts {
					less := copied(p)
					less[thread] = slices.Delete(less[thread], place, place+1)
					if a.Do == 3 && len(without(outcomes(t, less, kind), before)) > 0 {
						want = append(want, [2]int{thread, place})
					}
				}
			}
			if l, err := memory.Needed(p, kind); !slices.Equal(l, want) || err != api.OK || kind == strict && len(l) > 0 {
				t.Fatalf("%v: Needed(%d): %v, %d, not %v", p, kind, l, err, want)
			}
		}
	}
}

func TestSchedulesShowStrictMemory(t *testing.T) { // P4.3, P4.4, P4.9
	for _, p := range slices.Concat(pairs(), drawn(6, 600, 4, 8)) {
		count := 0
		var firsts, schedules [][]int
		runs(p, strictSteps, world{}, func(w world, outcome []int) {
			count++
			if l, err := memory.Run(p, w.order); !slices.Equal(l, outcome) || err != api.OK {
				t.Fatalf("%v: Run(%v): %v, %d", p, w.order, l, err)
			}
			if !has(firsts, outcome) {
				firsts, schedules = append(firsts, outcome), append(schedules, w.order)
			}
		})
		for i, outcome := range firsts {
			if l, err := memory.Schedule(p, outcome); !slices.Equal(l, schedules[i]) || err != api.OK {
				t.Fatalf("%v: Schedule(%v): %v, %d", p, outcome, l, err)
			}
		}
		for _, outcome := range outcomes(t, p, loose) {
			if l, err := memory.Schedule(p, outcome); !has(firsts, outcome) && (len(l) > 0 || err != api.ErrNone) {
				t.Fatalf("%v: Schedule(%v): %v, %d", p, outcome, l, err)
			}
		}
		slices.SortFunc(firsts, slices.Compare)
		n, err := memory.Schedules(p)
		loads, e := memory.Loads(p)
		if n != count || loads != len(firsts[0])-3 || err != api.OK || e != api.OK || !same(outcomes(t, p, strict), firsts) {
			t.Fatalf("%v: Schedules: %d, %d, not %d, Loads: %d, %d", p, n, err, count, loads, e)
		}
	}
}

// TestScheduleHasItsOutcome checks large programs, whose schedules are too many to look at each, and counts them by the thread that acts first.
func TestScheduleHasItsOutcome(t *testing.T) { // P4.3, P4.9
	for _, p := range slices.Concat(large(5, 200), drawn(7, 200, 7, 21)) {
		for _, outcome := range outcomes(t, p, strict) {
			schedule, err := memory.Schedule(p, outcome)
			l, e := memory.Run(p, schedule)
			if !slices.Equal(l, outcome) || err != api.OK || e != api.OK {
				t.Fatalf("%v: Schedule(%v): %v, %d, shows %v, %d", p, outcome, schedule, err, l, e)
			}
		}
		n, _ := memory.Schedules(p)
		sum := 0
		for thread, acts := range p {
			if len(acts) > 0 {
				less := copied(p)
				less[thread] = acts[1:]
				part, _ := memory.Schedules(less)
				sum += part
			}
		}
		if n != max(sum, 1) {
			t.Fatalf("%v: Schedules: %d, not %d", p, n, sum)
		}
	}
}

func TestOneOutcome(t *testing.T) { // P4.7, P4.9, P4.10
	none := 0
	for _, p := range slices.Concat(pairs(), drawn(8, 3000, 4, 12), large(6, 100)) {
		races, err := memory.Races(p)
		want := false
		for thread, acts := range p {
			for _, other := range p[:thread] {
				for _, a := range acts {
					for _, b := range other {
						want = want || a.Do != 3 && b.Do != 3 && a.Var == b.Var && (a.Do == 2 || b.Do == 2)
					}
				}
			}
		}
		if races != want || err != api.OK || len(p) == 1 && races {
			t.Fatalf("%v: Races: %v, %d", p, races, err)
		}
		if races {
			continue
		}
		none++
		one := outcomes(t, p, strict)
		if len(one) != 1 || !same(one, outcomes(t, p, buffers)) || !same(one, outcomes(t, p, loose)) {
			t.Fatalf("%v does not race, but shows %v", p, one)
		}
	}
	if none < 500 {
		t.Errorf("only %d programs do not race", none)
	}
}

func TestAllFencedIsBare(t *testing.T) { // P4.5, P4.10
	for _, p := range slices.Concat(pairs(), drawn(9, 600, 7, 21), large(7, 100)) {
		fenced, err := memory.AllFenced(p)
		bare, e := memory.Bare(fenced)
		if !bare || err != api.OK || e != api.OK || !same(outcomes(t, fenced, loose), outcomes(t, p, strict)) {
			t.Fatalf("%v: AllFenced: %v, %d, Bare: %v, %d", p, fenced, err, bare, e)
		}
		plain, _ := memory.Unfenced(p)
		again, e := memory.Unfenced(fenced)
		if !samePrograms(plain, again) || e != api.OK {
			t.Fatalf("%v: Unfenced: %v, of AllFenced: %v, %d", p, plain, again, e)
		}
	}
}

func TestNames(t *testing.T) { // P4.7, P4.11
	r := rand.New(rand.NewPCG(6, 6))
	for _, p := range slices.Concat(drawn(10, 600, 7, 21), large(8, 100)) {
		threads, a, b := r.Perm(len(p)), r.IntN(3), r.IntN(3)
		renamed, err := memory.Renamed(p, threads)
		swapped, e := memory.Swapped(p, a, b)
		twice, f := memory.Swapped(swapped, a, b)
		turned, g := memory.Swapped(p, b, a)
		if err != api.OK || e != api.OK || f != api.OK || g != api.OK || !samePrograms(p, twice) || !samePrograms(turned, swapped) {
			t.Fatalf("%v: Swapped(%d, %d): %v, twice %v", p, a, b, swapped, twice)
		}
		for i, thread := range threads {
			if !slices.Equal(renamed[i], p[thread]) {
				t.Fatalf("%v: Renamed(%v): %v", p, threads, renamed)
			}
		}
		for kind := strict; kind <= loose; kind++ {
			want := copiedLists(outcomes(t, p, kind))
			if l := outcomes(t, renamed, kind); len(l) != len(want) {
				t.Fatalf("%v: Renamed(%v) shows %d outcomes on %d, not %d", p, threads, len(l), kind, len(want))
			}
			for _, outcome := range want {
				cells := outcome[len(outcome)-3:]
				cells[a], cells[b] = cells[b], cells[a]
			}
			slices.SortFunc(want, slices.Compare)
			if l := outcomes(t, swapped, kind); !same(l, want) {
				t.Fatalf("%v: Swapped(%d, %d) shows %v on %d, not %v", p, a, b, l, kind, want)
			}
		}
	}
}

func copiedLists(lists [][]int) (copies [][]int) {
	for _, l := range lists {
		copies = append(copies, slices.Clone(l))
	}
	return copies
}
