package refine_test

import (
	"math/rand/v2"
	"slices"
	"testing"

	"lineal/api"
	"lineal/refine"
)

// goes returns the states to which a state comes by a label, in ascending order, as the document says it:
// it goes over the steps again and again, and keeps for each state whether it is found without the seen step, and with it.
func goes(s api.System, state, label int) []int {
	var found [6][2]bool
	found[state][0] = true
	for changed := true; changed; {
		changed = false
		add := func(state, done int) {
			changed = changed || !found[state][done]
			found[state][done] = true
		}
		for _, step := range s.Steps {
			for done := range 2 {
				if found[step.From][done] && step.Label == 0 {
					add(step.To, done)
				}
			}
			if found[step.From][0] && step.Label == label && label > 0 {
				add(step.To, 1)
			}
		}
	}
	var list []int
	for state := range s.States {
		if found[state][min(label, 1)] {
			list = append(list, state)
		}
	}
	return list
}

// table is for each state, and each label, the states to which it comes.
type table [6][4][]int

func tableOf(s api.System) table {
	var all table
	for state := range s.States {
		for label := range 4 {
			all[state][label] = goes(s, state, label)
		}
	}
	return all
}

// leads returns the states to which a list of labels leads from the state 0, as the states come by one after the other.
func (all table) leads(trace []int) []int {
	states := all[0][0]
	for _, label := range trace {
		var next []int
		for _, state := range states {
			next = append(next, all[state][label]...)
		}
		slices.Sort(next)
		states = slices.Compact(next)
	}
	return states
}

// traces returns all lists of at most n seen labels, by length, then label by label.
func traces(n int) [][]int {
	list := [][]int{nil}
	for i := 0; i < len(list); i++ {
		for label := 1; label <= 3 && len(list[i]) < n; label++ {
			list = append(list, append(slices.Clone(list[i]), label))
		}
	}
	return list
}

// proves reports whether a relation is a proof, as the document says it.
func proves(c api.System, a table, relation [][2]int) bool {
	for _, pair := range relation {
		for _, step := range c.Steps {
			if step.From == pair[0] && !slices.ContainsFunc(a[pair[1]][step.Label], func(y int) bool { return slices.Contains(relation, [2]int{step.To, y}) }) {
				return false
			}
		}
	}
	return true
}

// lost reports for each pair of states whether c has, after some steps, one that a cannot follow, whatever a has chosen before.
func lost(c, a api.System) (is [6][6]bool) {
	all := tableOf(a)
	for range 36 {
		next := is
		for _, step := range c.Steps {
			for y := range a.States {
				follows := slices.ContainsFunc(all[y][step.Label], func(to int) bool { return !is[step.To][to] })
				next[step.From][y] = next[step.From][y] || !follows
			}
		}
		is = next
	}
	return is
}

// best returns the pairs that are not lost.
func best(c, a api.System) [][2]int {
	var list [][2]int
	gone := lost(c, a)
	for x := range c.States {
		for y := range a.States {
			if !gone[x][y] {
				list = append(list, [2]int{x, y})
			}
		}
	}
	return list
}

// subsets returns all relations between two systems.
func subsets(c, a api.System) [][][2]int {
	list := [][][2]int{nil}
	for x := range c.States {
		for y := range a.States {
			for _, relation := range slices.Clone(list) {
				list = append(list, append(slices.Clone(relation), [2]int{x, y}))
			}
		}
	}
	return list
}

// tiny returns the systems of two states whose steps have the labels 0 and 1, or some of them.
func tiny(each int) []api.System {
	var list []api.System
	for code := 0; code < 256; code += each {
		s := api.System{States: 2}
		for bit := range 8 {
			if code>>bit&1 == 1 {
				s.Steps = append(s.Steps, api.Step{From: bit & 1, Label: bit >> 1 & 1, To: bit >> 2})
			}
		}
		list = append(list, s)
	}
	return list
}

type dice struct{ *rand.Rand }

func newDice(seed uint64) dice { return dice{rand.New(rand.NewPCG(5, seed))} }

func (d dice) step(states, labels int) api.Step {
	return api.Step{From: d.IntN(states), Label: d.IntN(labels + 1), To: d.IntN(states)}
}

// system returns some system with at most so many states.
func (d dice) system(most int) api.System {
	s := api.System{States: 1 + d.IntN(most)}
	labels := 1 + d.IntN(3)
	for range d.IntN(min(24, (1+d.IntN(8))*s.States) + 1) {
		if step := d.step(s.States, labels); !slices.Contains(s.Steps, step) {
			s.Steps = append(s.Steps, step)
		}
	}
	return s
}

// near returns a system that is like another one: some of its steps are left out, and one may lead elsewhere.
func (d dice) near(s api.System) api.System {
	c := with(s)
	for len(c.Steps) > 0 && d.IntN(3) > 0 {
		i := d.IntN(len(c.Steps))
		c.Steps = slices.Delete(c.Steps, i, i+1)
	}
	if step := d.step(c.States, 3); d.IntN(3) == 0 && len(c.Steps) < 24 && !slices.Contains(c.Steps, step) {
		c.Steps = append(c.Steps, step)
	}
	return c
}

// systems returns some systems with at most so many states, and large ones among them.
func systems(seed uint64, count, most int) []api.System {
	d := newDice(seed)
	list := []api.System{{States: 1}}
	for range count {
		list = append(list, d.system(most))
	}
	return list
}

// couples returns some couples of systems: many of them are alike.
func couples(seed uint64, count, most int) [][2]api.System {
	d := newDice(seed)
	var list [][2]api.System
	for range count {
		c, a := d.system(most), d.system(most)
		near := d.near(a)
		list = append(list, [2]api.System{c, a}, [2]api.System{near, a}, [2]api.System{d.near(near), a})
	}
	return list
}

func TestComesAsStepsLead(t *testing.T) { // P5.2
	for _, s := range slices.Concat(tiny(1), systems(1, 2000, 6)) {
		for state := range s.States {
			for label := range 4 {
				if l, err := refine.Comes(s, state, label); !slices.Equal(l, goes(s, state, label)) || err != api.OK {
					t.Fatalf("Comes(%v, %d, %d): %v, %d", s, state, label, l, err)
				}
			}
		}
		// All states are reached to which hidden steps would lead if all steps were hidden.
		quiet := api.System{States: s.States}
		for _, step := range s.Steps {
			quiet.Steps = append(quiet.Steps, api.Step{From: step.From, To: step.To})
		}
		reached := goes(quiet, 0, 0)
		if l, err := refine.Reached(s); !slices.Equal(l, reached) || err != api.OK {
			t.Fatalf("Reached(%v): %v, %d", s, l, err)
		}
		for _, step := range s.Steps {
			reached = slices.DeleteFunc(reached, func(state int) bool { return state == step.From })
		}
		if l, err := refine.Stuck(s); !slices.Equal(l, reached) || err != api.OK {
			t.Fatalf("Stuck(%v): %v, %d", s, l, err)
		}
	}
}

func TestTracesAsStatesCome(t *testing.T) { // P5.3
	d := newDice(2)
	for _, s := range slices.Concat(tiny(3), systems(2, 300, 6)) {
		all := tableOf(s)
		var known [][]int
		for _, trace := range traces(5) {
			is, err := refine.IsTrace(s, trace)
			if is != (len(all.leads(trace)) > 0) || err != api.OK {
				t.Fatalf("IsTrace(%v, %v): %v, %d", s, trace, is, err)
			}
			if is {
				known = append(known, trace)
			}
		}
		slices.SortFunc(known, slices.Compare)
		for most := range 6 {
			want := slices.DeleteFunc(slices.Clone(known), func(trace []int) bool { return len(trace) > most })
			if l, err := refine.Traces(s, most); !sameLists(l, want) || err != api.OK {
				t.Fatalf("Traces(%v, %d): %v, %d", s, most, l, err)
			}
		}
		var long []int
		for len(all.leads(long)) > 0 && len(long) < 60 {
			if is, err := refine.IsTrace(s, long); !is || err != api.OK {
				t.Fatalf("IsTrace(%v, %v): %v, %d", s, long, is, err)
			}
			long = append(long, 1+d.IntN(3))
		}
		if is, err := refine.IsTrace(s, long); is != (len(all.leads(long)) > 0) || err != api.OK {
			t.Fatalf("IsTrace(%v, %v): %v, %d", s, long, is, err)
		}
	}
}

// checkBest checks that Best is what is given, and a proof.
func checkBest(t *testing.T, c, a api.System, want [][2]int) {
	t.Helper()
	if l, err := refine.Best(c, a); !slices.Equal(l, want) || err != api.OK {
		t.Fatalf("Best(%v, %v): %v, %d, not %v", c, a, l, err, want)
	}
	if is, err := refine.IsProof(c, a, want); !is || err != api.OK {
		t.Fatalf("IsProof(%v, %v): %v, %d", c, a, is, err)
	}
}

// TestBestIsAllProofs looks at each relation between small systems.
func TestBestIsAllProofs(t *testing.T) { // P5.4, P5.7
	var list [][2]api.System
	for _, c := range tiny(5) {
		for _, a := range tiny(3) {
			list = append(list, [2]api.System{c, a})
		}
	}
	for _, of := range append(list, couples(3, 60, 3)...) {
		c, a, all := of[0], of[1], tableOf(of[1])
		var union [][2]int
		for _, relation := range subsets(c, a) {
			want := proves(c, all, relation)
			if is, err := refine.IsProof(c, a, relation); is != want || err != api.OK {
				t.Fatalf("IsProof(%v, %v, %v): %v, %d", c, a, relation, is, err)
			}
			if want {
				union = append(union, relation...)
			}
		}
		slices.SortFunc(union, func(p, q [2]int) int { return slices.Compare(p[:], q[:]) })
		checkBest(t, c, a, slices.Compact(union))
	}
}

func TestBestIsWhatIsNotLost(t *testing.T) { // P5.4, P5.7, P6
	for _, of := range couples(4, 1500, 6) {
		c, a := of[0], of[1]
		want := best(c, a)
		checkBest(t, c, a, want)
		refines := slices.Contains(want, [2]int{0, 0})
		if is, err := refine.Refines(c, a); is != refines || err != api.OK {
			t.Fatalf("Refines(%v, %v): %v, %d", c, a, is, err)
		}
		l, err := refine.Proof(c, a)
		if !refines {
			if len(l) > 0 || err != api.ErrNone {
				t.Fatalf("Proof(%v, %v): %v, %d", c, a, l, err)
			}
		} else if !slices.Equal(l, needed(c, a, want)) || !proves(c, tableOf(a), l) || err != api.OK {
			t.Fatalf("Proof(%v, %v): %v, %d, not %v", c, a, l, err, needed(c, a, want))
		}
	}
}

// needed returns those pairs of a relation that are needed from (0, 0) on.
func needed(c, a api.System, relation [][2]int) [][2]int {
	list := [][2]int{{0, 0}}
	for i := 0; i < len(list); i++ {
		for _, step := range c.Steps {
			if step.From != list[i][0] {
				continue
			}
			for _, y := range goes(a, list[i][1], step.Label) { // in ascending order
				if pair := [2]int{step.To, y}; slices.Contains(relation, pair) {
					if !slices.Contains(list, pair) {
						list = append(list, pair)
					}
					break
				}
			}
		}
	}
	slices.SortFunc(list, func(p, q [2]int) int { return slices.Compare(p[:], q[:]) })
	return list
}

func refines(t *testing.T, c, a api.System) bool {
	t.Helper()
	is, err := refine.Refines(c, a)
	if err != api.OK {
		t.Fatalf("Refines(%v, %v): %d", c, a, err)
	}
	return is
}

func TestProofsComposed(t *testing.T) { // P5.6, P5.7
	d := newDice(5)
	count := 0
	for range 3000 {
		a := d.system(6)
		b := d.near(a)
		c := d.near(b)
		if !refines(t, a, a) {
			t.Fatalf("%v does not refine itself", a)
		}
		for _, proof := range []func(c, a api.System) ([][2]int, api.Errno){refine.Best, refine.Proof} {
			r, err := proof(c, b)
			s, other := proof(b, a)
			if err != api.OK || other != api.OK {
				continue
			}
			var want [][2]int
			for x := range 6 {
				for z := range 6 {
					if slices.ContainsFunc([]int{0, 1, 2, 3, 4, 5}, func(y int) bool {
						return slices.Contains(r, [2]int{x, y}) && slices.Contains(s, [2]int{y, z})
					}) {
						want = append(want, [2]int{x, z})
					}
				}
			}
			l, err := refine.Composed(r, s)
			if !slices.Equal(l, want) || err != api.OK {
				t.Fatalf("Composed(%v, %v): %v, %d", r, s, l, err)
			}
			if is, err := refine.IsProof(c, a, l); !is || err != api.OK {
				t.Fatalf("IsProof(%v, %v, %v): %v, %d", c, a, l, is, err)
			}
			count++
		}
		if refines(t, c, b) && refines(t, b, a) && !refines(t, c, a) {
			t.Fatalf("%v does not refine %v", c, a)
		}
	}
	if count < 3000 {
		t.Errorf("proofs composed: %d", count)
	}
}

// spot is where lists of labels lead in two systems.
type spot [2][6]bool

// race looks for traces of the first of two systems that are none of the second one.
type race struct {
	systems [2]api.System
	tables  [2]table
	known   map[spot][]bool // for each number of labels whether as many are enough
}

func newRace(c, a api.System) race {
	return race{[2]api.System{c, a}, [2]table{tableOf(c), tableOf(a)}, map[spot][]bool{}}
}

func (r race) next(at spot, label int) spot {
	var to spot
	for which := range 2 {
		for state := range r.systems[which].States {
			for _, next := range r.tables[which][state][label] {
				to[which][next] = to[which][next] || at[which][state]
			}
		}
	}
	return to
}

// ends reports whether at most n labels lead on to where the first system has a state, and the second one none.
func (r race) ends(at spot, n int) bool {
	if none := ([6]bool{}); at[0] == none || at[1] == none {
		return at[0] != none
	}
	if n == 0 {
		return false
	}
	for len(r.known[at]) < n {
		enough := false
		for label := 1; label <= 3 && !enough; label++ {
			enough = r.ends(r.next(at, label), len(r.known[at]))
		}
		r.known[at] = append(r.known[at], enough)
	}
	return r.known[at][n-1]
}

// first returns the first of the shortest traces, if there is one of at most 40 labels.
func (r race) first() ([]int, bool) {
	at, n := spot{}, 0
	for which := range 2 {
		for _, state := range r.tables[which][0][0] {
			at[which][state] = true
		}
	}
	for !r.ends(at, n) {
		if n++; n > 40 {
			return nil, false
		}
	}
	var trace []int
	for ; n > 0; n-- {
		label := 1
		for !r.ends(r.next(at, label), n-1) {
			label++
		}
		trace, at = append(trace, label), r.next(at, label)
	}
	return trace, true
}

// hard returns couples of systems of which the first one has all traces, and the second one all but long ones.
func hard() [][2]api.System {
	var list [][2]api.System
	for _, text := range []string{
		"6 431 513 534 415 314 512 214 235 132 420 004 333 522 325 224 011 412 215 002 133 001 125 030 313",
		"6 232 222 521 214 510 211 135 534 024 030 023 413 215 333 431 005 124 121 025 312 323 113 002 233",
		"6 525 224 424 221 532 435 004 213 334 533 311 112 234 414 020 003 432 010 422 431 322 515 131 033",
	} {
		list = append(list, [2]api.System{system("1 010 020 030"), system(text)}, [2]api.System{full(), system(text)})
	}
	return list
}

func TestShowsIsTheFirst(t *testing.T) { // P5.5, P5.8
	far := 0
	for _, of := range slices.Concat(couples(6, 1000, 6), hard()) {
		c, a := of[0], of[1]
		want, is := newRace(c, a).first()
		w, err := refine.Shows(c, a)
		if !is {
			if len(w) > 0 || err != api.ErrNone {
				t.Fatalf("Shows(%v, %v): %v, %d", c, a, w, err)
			}
			continue
		}
		if !slices.Equal(w, want) || err != api.OK || refines(t, c, a) {
			t.Fatalf("Shows(%v, %v): %v, %d, not %v", c, a, w, err, want)
		}
		if len(w) > 5 {
			far++
		}
		ofC, _ := refine.IsTrace(c, w)
		ofA, _ := refine.IsTrace(a, w)
		l, _ := refine.Traces(c, 5)
		if has := slices.ContainsFunc(l, func(trace []int) bool { return slices.Equal(trace, w) }); !ofC || ofA || has != (len(w) <= 5) {
			t.Fatalf("Shows(%v, %v): %v is a trace: %v, %v, %v", c, a, w, ofC, ofA, has)
		}
	}
	if far < len(hard()) {
		t.Errorf("traces of more than 5 labels: %d", far)
	}
}

// TestWhatRefinesShowsNothing checks that what refines has no other traces.
func TestWhatRefinesShowsNothing(t *testing.T) { // P5.8, P6
	count := 0
	for _, of := range couples(11, 1000, 6) {
		c, a := of[0], of[1]
		if !refines(t, c, a) {
			continue
		}
		count++
		if w, err := refine.Shows(c, a); len(w) > 0 || err != api.ErrNone {
			t.Fatalf("Shows(%v, %v): %v, %d", c, a, w, err)
		}
		l, _ := refine.Traces(c, 5)
		for _, trace := range l {
			if is, err := refine.IsTrace(a, trace); !is || err != api.OK {
				t.Fatalf("IsTrace(%v, %v): %v, %d, though %v refines it", a, trace, is, err, c)
			}
		}
	}
	if count < 500 {
		t.Errorf("couples of which one refines the other: %d", count)
	}
}

func TestTracesOfPlainOnes(t *testing.T) { // P5.8, P5.9, P6
	count, wider := 0, 0
	for _, of := range couples(7, 3000, 6) {
		c, a := of[0], of[1]
		plain, err := refine.Seen(a)
		if err != api.OK {
			continue
		}
		_, shows := refine.Shows(c, a)
		if _, same := refine.Shows(c, plain); same != shows {
			t.Fatalf("Shows(%v, %v): %d, but of what is seen: %d", c, a, shows, same)
		}
		follows := refines(t, c, plain)
		if follows != (shows == api.ErrNone) {
			t.Fatalf("%v refines the plain %v: %v, but Shows: %d", c, plain, follows, shows)
		}
		count++
		if follows && !refines(t, c, a) {
			wider++
		}
	}
	if count < 1000 || wider == 0 {
		t.Errorf("plain ones: %d, of them refined by what does not refine the others: %d", count, wider)
	}
}

func TestSeenAsTracesLead(t *testing.T) { // P5.5, P5.9
	lists, large := traces(6), 0
	for _, s := range slices.Concat(tiny(1), systems(8, 600, 6)) {
		all := tableOf(s)
		var sets [][]int
		at := func(trace []int) int {
			states := all.leads(trace)
			return slices.IndexFunc(sets, func(set []int) bool { return slices.Equal(set, states) })
		}
		// The first lists that lead to the sets: of these at most 6 labels are needed for 7 sets.
		var firsts [][]int
		for _, trace := range lists {
			if states := all.leads(trace); len(states) > 0 && at(trace) < 0 {
				sets, firsts = append(sets, states), append(firsts, trace)
			}
		}
		seen, err := refine.Seen(s)
		if len(sets) > 6 {
			large++
			if !isZero(seen) || err != api.ErrLimit {
				t.Fatalf("Seen(%v): %v, %d", s, seen, err)
			}
			continue
		}
		want := api.System{States: len(sets)}
		for from, trace := range firsts {
			for label := 1; label <= 3; label++ {
				if to := at(append(slices.Clone(trace), label)); to >= 0 {
					want.Steps = append(want.Steps, api.Step{From: from, Label: label, To: to})
				}
			}
		}
		if !same(seen, want) || err != api.OK {
			t.Fatalf("Seen(%v): %v, %d, not %v", s, seen, err, want)
		}
		checkSeen(t, s, seen)
	}
	if large == 0 {
		t.Error("no system has too many sets")
	}
}

// checkSeen checks that what is seen of a system is plain, has the same traces, and is refined by the system.
func checkSeen(t *testing.T, s, seen api.System) {
	t.Helper()
	plain, err := refine.Plain(seen)
	if !plain || err != api.OK || !refine.Valid(seen) || !refines(t, s, seen) {
		t.Fatalf("Seen(%v): %v, plain: %v", s, seen, plain)
	}
	l, _ := refine.Traces(s, 5)
	if same, _ := refine.Traces(seen, 5); !sameLists(l, same) {
		t.Fatalf("Traces(%v): %v, of what is seen: %v", s, l, same)
	}
	if again, err := refine.Seen(seen); !same(again, seen) || err != api.OK {
		t.Fatalf("Seen(%v): %v, %d", seen, again, err)
	}
}

func TestHiddenAndWithoutRefine(t *testing.T) { // P5.6, P5.8, P5.9
	for _, of := range couples(9, 1000, 6) {
		c, a := of[0], of[1]
		for i := range a.Steps {
			less, err := refine.Without(a, i)
			if !same(less, api.System{States: a.States, Steps: slices.Concat(a.Steps[:i], a.Steps[i+1:])}) || err != api.OK || !refines(t, less, a) {
				t.Fatalf("Without(%v, %d): %v, %d", a, i, less, err)
			}
		}
		for label := 1; label <= 3; label++ {
			quiet, err := refine.Hidden(a, label)
			if !refine.Valid(quiet) || !same(quiet, quieted(a, label)) || err != api.OK {
				t.Fatalf("Hidden(%v, %d): %v, %d", a, label, quiet, err)
			}
			if other, _ := refine.Hidden(c, label); refines(t, c, a) && !refines(t, other, quiet) {
				t.Fatalf("%v refines %v, but not with %d hidden", c, a, label)
			}
		}
	}
}

// quieted returns a system with a label that is hidden, as the document says it: first all steps are replaced, then those are left out that come again.
func quieted(s api.System, label int) api.System {
	all := with(s)
	for i := range all.Steps {
		if all.Steps[i].Label == label {
			all.Steps[i].Label = 0
		}
	}
	quiet := api.System{States: s.States}
	for i, step := range all.Steps {
		if slices.Index(all.Steps, step) == i {
			quiet.Steps = append(quiet.Steps, step)
		}
	}
	return quiet
}

// bothOf returns the system of two, if it fits: it goes over all steps that there may be, in ascending order.
func bothOf(s, t api.System) (both api.System, fits bool) {
	both.States = s.States * t.States
	for from := range both.States {
		for label := range 4 {
			for to := range both.States {
				i, k := from/t.States, from%t.States
				j, l := to/t.States, to%t.States
				a, b := slices.Contains(s.Steps, api.Step{From: i, Label: label, To: j}), slices.Contains(t.Steps, api.Step{From: k, Label: label, To: l})
				if label > 0 && a && b || label == 0 && (a && k == l || b && i == j) {
					both.Steps = append(both.Steps, api.Step{From: from, Label: label, To: to})
				}
			}
		}
	}
	return both, both.States <= 6 && len(both.Steps) <= 24
}

func TestBothRefinesBoth(t *testing.T) { // P5.6, P5.10
	d := newDice(10)
	some, many := 0, 0
	for i := range 4000 {
		a, b := d.system(3), d.system(2+i%2)
		want, fits := bothOf(a, b)
		both, err := refine.Both(a, b)
		if !fits {
			if want.States <= 6 {
				many++
			}
			if !isZero(both) || err != api.ErrLimit {
				t.Fatalf("Both(%v, %v): %v, %d", a, b, both, err)
			}
			continue
		}
		some++
		if !same(both, want) || err != api.OK || !refine.Valid(both) || !refines(t, both, a) || !refines(t, both, b) {
			t.Fatalf("Both(%v, %v): %v, %d, not %v", a, b, both, err, want)
		}
	}
	if some < 1000 || many == 0 {
		t.Errorf("systems that fit: %d, with too many steps: %d", some, many)
	}
}
