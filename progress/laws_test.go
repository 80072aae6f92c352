package progress_test

import (
	"math/rand/v2"
	"slices"
	"testing"

	"lineal/api"
	"lineal/progress"
)

// all returns all moves that a graph with so many places can have.
func all(places int) []api.Move {
	var list []api.Move
	for from := range places {
		for to := range places {
			for thread := range 3 {
				list = append(list, api.Move{From: from, Thread: thread, To: to}, api.Move{From: from, Thread: thread, To: to, Done: true})
			}
		}
	}
	return list
}

// small returns all graphs with one place, and all with two places that have a few moves.
func small(most int) []api.Graph {
	var list []api.Graph
	var add func(g api.Graph, left []api.Move, most int)
	add = func(g api.Graph, left []api.Move, most int) {
		list = append(list, g)
		for i := range left {
			if most > 0 {
				add(with(g, left[i]), left[i+1:], most-1)
			}
		}
	}
	add(api.Graph{Places: 1}, all(1), 6)
	add(api.Graph{Places: 2}, all(2), most)
	return list
}

// dice makes graphs.
type dice struct{ *rand.Rand }

func newDice(seed uint64) dice { return dice{rand.New(rand.NewPCG(seed, 7))} }

// graph makes a graph whose moves lead mostly ahead in some order of the places, in some graphs to the next one alone; those that lead back are often Done.
func (d dice) graph(places, moves int) api.Graph {
	order := d.Perm(places)
	if d.IntN(4) > 0 {
		at := slices.Index(order, 0)
		order[0], order[at] = order[at], order[0]
	}
	used, back, done, near := 1+d.IntN(3), d.IntN(4), d.IntN(4), d.IntN(2) == 0
	g := api.Graph{Places: places}
	for range moves {
		i, k := d.IntN(places), d.IntN(places)
		if near {
			k = min(i+1, places-1)
		}
		m := api.Move{Thread: d.IntN(used), Done: d.IntN(10) == 0}
		if i > k == (d.IntN(5) >= back) {
			i, k = k, i
		}
		if i >= k && d.IntN(4) < done {
			m.Done = true
		}
		m.From, m.To = order[i], order[k]
		if !slices.Contains(g.Moves, m) {
			g.Moves = append(g.Moves, m)
		}
	}
	return g
}

// graphs makes graphs of all sizes.
func (d dice) graphs(count int) []api.Graph {
	var list []api.Graph
	for range count {
		list = append(list, d.graph(1+d.IntN(8), d.IntN(21)))
	}
	return list
}

// samples returns small graphs and large ones.
func samples(seed uint64) []api.Graph { return slices.Concat(small(3), newDice(seed).graphs(4000)) }

// distances returns for each place the length of the shortest path to a place, or 99.
func distances(g api.Graph, to int) [8]int {
	var far [8]int
	for place := range far {
		far[place] = 99
	}
	far[to] = 0
	for range g.Places {
		for _, m := range g.Moves {
			far[m.From] = min(far[m.From], far[m.To]+1)
		}
	}
	return far
}

func TestReachedByDistance(t *testing.T) { // P7.2, P7.10
	far := 0
	for _, g := range samples(1) {
		var reached, ends []int
		for place := range g.Places {
			left := distances(g, place)
			length := left[0]
			want := api.OK
			if length == 99 {
				want = api.ErrNone
			} else {
				reached = append(reached, place)
				if !slices.ContainsFunc(g.Moves, func(m api.Move) bool { return m.From == place }) {
					ends = append(ends, place)
				}
			}
			// From each place the first move that leads nearer.
			var path []int
			for at := 0; want == api.OK && at != place; {
				move := slices.IndexFunc(g.Moves, func(m api.Move) bool { return m.From == at && left[m.To] == left[at]-1 })
				path, at = append(path, move), g.Moves[move].To
			}
			if length > 4 && length < 99 {
				far++
			}
			way, err := progress.Way(g, place)
			if !slices.Equal(way, path) || err != want {
				t.Fatalf("%v: Way(%d): %v, %d, not %v", g, place, way, err, path)
			}
			if is, err := progress.IsPath(g, way); !is || err != api.OK {
				t.Fatalf("%v: IsPath(%v): %v, %d", g, way, is, err)
			}
		}
		if l, err := progress.Reached(g); !slices.Equal(l, reached) || err != api.OK {
			t.Fatalf("%v: Reached: %v, %d, not %v", g, l, err, reached)
		}
		if l, err := progress.Ends(g); !slices.Equal(l, ends) || err != api.OK {
			t.Fatalf("%v: Ends: %v, %d, not %v", g, l, err, ends)
		}
	}
	if far < 100 {
		t.Errorf("ways of more than 4 moves: %d", far)
	}
}

// marks tell what moves a list of them has: some of a thread, some of another one, some of the thread that are Done, some that are Done.
type marks struct{ own, other, ownDone, done bool }

func (k marks) and(m api.Move, thread int) marks {
	own := m.Thread == thread
	return marks{k.own || own, k.other || !own, k.ownDone || own && m.Done, k.done || m.Done}
}

// bad reports whether a circle is one of those that a claim says there are none of, as the document says it.
func (k marks) bad(claim int) bool {
	switch claim {
	case 0:
		return !k.done
	case 1:
		return k.own && !k.ownDone
	default:
		return !k.other && !k.done
	}
}

// circles returns what moves the circles from a place have, whatever their length.
func circles(g api.Graph, from, thread int) []marks {
	type walk struct {
		place int
		marks
	}
	list := []walk{{place: from}}
	known := map[walk]bool{}
	var found []marks
	for i := 0; i < len(list); i++ {
		for _, m := range g.Moves {
			if m.From != list[i].place {
				continue
			}
			next := walk{m.To, list[i].and(m, thread)}
			if known[next] {
				continue
			}
			known[next] = true
			list = append(list, next)
			if m.To == from {
				found = append(found, next.marks)
			}
		}
	}
	return found
}

// hold reports whether a claim holds, by all circles.
func hold(g api.Graph, c asked) bool {
	for place := range g.Places {
		isBad := func(k marks) bool { return k.bad(c.claim) }
		if distances(g, place)[0] < 99 && slices.ContainsFunc(circles(g, place, c.thread), isBad) {
			return false
		}
	}
	return true
}

func TestHoldsByCircles(t *testing.T) { // P7.3, P7.4, P7.5, P7.7
	count := map[bool]int{}
	for _, g := range samples(2) {
		everybody := true
		for _, c := range claims() {
			want := hold(g, c)
			count[want]++
			everybody = everybody && (want || c.claim != 1)
			if is, err := progress.Holds(g, c.claim, c.thread); is != want || err != api.OK {
				t.Fatalf("%v: Holds(%v): %v, %d, not %v", g, c, is, err, want)
			}
			checkProved(t, g, c, want)
		}
		if is, err := progress.Everybody(g); is != everybody || err != api.OK {
			t.Fatalf("%v: Everybody: %v, %d", g, is, err)
		}
	}
	if count[true] < 10000 || count[false] < 10000 {
		t.Errorf("claims that hold, or do not: %v", count)
	}
}

// checkProved checks that ranks prove what holds, and a lasso refutes what does not.
func checkProved(t *testing.T, g api.Graph, c asked, holds bool) {
	t.Helper()
	ranks, err := progress.Ranks(g, c.claim, c.thread)
	path, circle, none := progress.Lasso(g, c.claim, c.thread)
	if holds {
		if is, e := progress.Prove(g, c.claim, c.thread, ranks); !is || e != api.OK || err != api.OK {
			t.Fatalf("%v: Prove(%v, %v): %v, %d", g, c, ranks, is, e)
		}
		if len(path) > 0 || len(circle) > 0 || none != api.ErrNone {
			t.Fatalf("%v: Lasso(%v): %v, %v, %d", g, c, path, circle, none)
		}
		return
	}
	if len(ranks) > 0 || err != api.ErrNone {
		t.Fatalf("%v: Ranks(%v): %v, %d", g, c, ranks, err)
	}
	is, e := progress.Refutes(g, c.claim, c.thread, path, circle)
	if !is || e != api.OK || none != api.OK || !refutes(g, c, path, circle) || len(path) > 100 || len(circle) > 100 {
		t.Fatalf("%v: Lasso(%v): %v, %v, %d, Refutes: %v, %d", g, c, path, circle, none, is, e)
	}
}

// ahead reports whether each move of a list begins where the one in front of it leads, the first one at a place, and where it leads.
func ahead(g api.Graph, at int, list []int) (int, bool) {
	for _, move := range list {
		if move < 0 || move >= len(g.Moves) || g.Moves[move].From != at {
			return -1, false
		}
		at = g.Moves[move].To
	}
	return at, true
}

// refutes reports whether two lists are a lasso against a claim, as the document says it.
func refutes(g api.Graph, c asked, path, circle []int) bool {
	begin, is := ahead(g, 0, path)
	end, goes := ahead(g, begin, circle)
	if !is || !goes || begin != end || len(circle) == 0 {
		return false
	}
	var k marks
	for _, move := range circle {
		k = k.and(g.Moves[move], c.thread)
	}
	return k.bad(c.claim)
}

// lists returns all lists of at most `most` numbers below n.
func lists(n, most int) [][]int {
	list := [][]int{nil}
	for i := 0; i < len(list) && len(list[i]) < most; i++ {
		for number := range n {
			list = append(list, append(slices.Clone(list[i]), number))
		}
	}
	return list
}

func TestRefutesAndIsPathOfAllLists(t *testing.T) { // P7.2, P7.4
	d := newDice(3)
	count := 0
	for range 60 {
		g := d.graph(1+d.IntN(3), 1+d.IntN(5))
		all := lists(len(g.Moves)+1, 3)
		for _, path := range all {
			want := len(path) == 0
			for place := range g.Places {
				_, is := ahead(g, place, path)
				want = want || is
			}
			if is, err := progress.IsPath(g, path); is != want || err != api.OK {
				t.Fatalf("%v: IsPath(%v): %v, %d", g, path, is, err)
			}
			for _, circle := range all {
				c := claims()[d.IntN(7)]
				want := refutes(g, c, path, circle)
				if is, err := progress.Refutes(g, c.claim, c.thread, path, circle); is != want || err != api.OK {
					t.Fatalf("%v: Refutes(%v, %v, %v): %v, %d", g, c, path, circle, is, err)
				}
				if want {
					count++
				}
			}
		}
	}
	if count < 1000 {
		t.Errorf("lassos: %d", count)
	}
}

// prove reports whether ranks prove a claim, as the document says it.
func prove(g api.Graph, c asked, ranks []int) bool {
	for _, m := range g.Moves {
		if distances(g, m.From)[0] == 99 {
			continue
		}
		own, from, to := m.Thread == c.thread, ranks[m.From], ranks[m.To]
		var is bool
		switch c.claim {
		case 0:
			is = m.Done || to < from
		case 1:
			is = own && m.Done || to <= from && (!own || to < from)
		default:
			is = !own || m.Done || to < from
		}
		if !is {
			return false
		}
	}
	return true
}

// TestRanksAreTheLeast goes over all ranks that there may be in small graphs.
func TestRanksAreTheLeast(t *testing.T) { // P7.3, P7.7
	d := newDice(4)
	list := slices.Clone(small(2))
	for range 300 {
		list = append(list, d.graph(3, d.IntN(8)), d.graph(3, d.IntN(4)), d.graph(4, d.IntN(7)))
	}
	for _, g := range list {
		all := slices.DeleteFunc(lists(g.Places+1, g.Places), func(ranks []int) bool { return len(ranks) < g.Places })
		for _, c := range claims() {
			var least []int
			for _, ranks := range all {
				want := prove(g, c, ranks)
				if is, err := progress.Prove(g, c.claim, c.thread, ranks); is != want || err != api.OK {
					t.Fatalf("%v: Prove(%v, %v): %v, %d", g, c, ranks, is, err)
				}
				if want && least == nil {
					least = slices.Clone(ranks)
				}
				for place := range ranks {
					if want {
						least[place] = min(least[place], ranks[place])
					}
				}
			}
			ranks, err := progress.Ranks(g, c.claim, c.thread)
			if !slices.Equal(ranks, least) || (err == api.OK) != (least != nil) {
				t.Fatalf("%v: Ranks(%v): %v, %d, not %v", g, c, ranks, err, least)
			}
		}
	}
}

// most returns for each place that is reached the greatest number of moves that weigh on a path from it, none of which stops it; 0 for the others; and whether there is such a number everywhere.
// What stops, and what weighs, the document says for Longest and Bound; for the claim 2 only moves of the thread go on, and these weigh.
func most(g api.Graph, c asked) ([]int, bool) {
	counts := make([]int, g.Places)
	for range 80 { // enough for a path on which 8 moves weigh: it comes to a place again, between two of them
		next := slices.Clone(counts)
		for _, m := range g.Moves {
			own := m.Thread == c.thread
			stops, weighs := m.Done, true
			switch c.claim {
			case 1:
				stops, weighs = own && m.Done, own
			case 2:
				stops = !own || m.Done
			}
			if stops || distances(g, m.From)[0] == 99 {
				continue
			}
			more := 0
			if weighs {
				more = 1
			}
			next[m.From] = max(next[m.From], counts[m.To]+more)
		}
		counts = next
	}
	return counts, slices.Max(counts) < 8
}

func TestRanksCountMoves(t *testing.T) { // P7.3, P7.5, P7.7, P7.9
	high := 0
	for _, g := range newDice(5).graphs(1500) {
		for _, c := range claims() {
			want, is := most(g, c)
			if !is {
				want = nil
			}
			ranks, err := progress.Ranks(g, c.claim, c.thread)
			if !slices.Equal(ranks, want) || (err == api.OK) != is {
				t.Fatalf("%v: Ranks(%v): %v, %d, not %v", g, c, ranks, err, want)
			}
			n, none := 0, api.ErrNone
			switch {
			case c.claim == 0:
				n, none = progress.Longest(g)
			case c.claim == 1:
				n, none = progress.Bound(g, c.thread)
			default:
				continue
			}
			greatest := 0
			if is {
				greatest = slices.Max(want)
			}
			if n != greatest || none != err {
				t.Fatalf("%v: the greatest one of %v: %d, %d", g, want, n, none)
			}
			if n > 3 {
				high++
			}
		}
	}
	if high < 50 {
		t.Errorf("greatest ones that are more than 3: %d", high)
	}
}

// TestNoRanksProveWhatALassoRefutes checks it, and that ranks that prove are nowhere less than the least ones, with ranks that nearly prove.
func TestNoRanksProveWhatALassoRefutes(t *testing.T) { // P7.3, P7.7
	d := newDice(6)
	count := map[bool]int{}
	for _, g := range d.graphs(3000) {
		for _, c := range claims() {
			least, err := progress.Ranks(g, c.claim, c.thread)
			guess := make([]int, g.Places)
			if err == api.OK {
				copy(guess, least)
			}
			for range 4 {
				place := d.IntN(g.Places)
				guess[place] = max(0, guess[place]+d.IntN(4)-1)
				want := prove(g, c, guess)
				is, e := progress.Prove(g, c.claim, c.thread, guess)
				if is != want || e != api.OK || is && err != api.OK {
					t.Fatalf("%v: Prove(%v, %v): %v, %d, Ranks: %v, %d", g, c, guess, is, e, least, err)
				}
				for place := range least {
					if is && guess[place] < least[place] {
						t.Fatalf("%v: %v prove %v, though %v are the least", g, guess, c, least)
					}
				}
				count[is]++
			}
		}
	}
	if count[true] < 5000 || count[false] < 5000 {
		t.Errorf("ranks that prove, or do not: %v", count)
	}
}

func TestClasses(t *testing.T) { // P7.5, P7.8, P7.9
	var counts [4]int
	for _, g := range samples(7) {
		holds := map[asked]bool{}
		for _, c := range claims() {
			holds[c], _ = progress.Holds(g, c.claim, c.thread)
		}
		everybody, err := progress.Everybody(g)
		if everybody != (holds[asked{1, 0}] && holds[asked{1, 1}] && holds[asked{1, 2}]) || err != api.OK {
			t.Fatalf("%v: Everybody: %v, %d", g, everybody, err)
		}
		free := holds[asked{0, 0}]
		if everybody && !free {
			t.Fatalf("%v waits for nobody, but is not free of locks", g)
		}
		for thread := range 3 {
			waits, alone := holds[asked{1, thread}], holds[asked{2, thread}]
			if (free || waits) && !alone {
				t.Fatalf("%v is not free alone for %d", g, thread)
			}
			if _, err := progress.Bound(g, thread); (err == api.ErrNone) == waits {
				t.Fatalf("%v: Bound(%d): %d", g, thread, err)
			}
			if alone && !free && !waits {
				counts[0]++
			}
		}
		if _, err := progress.Longest(g); (err == api.ErrNone) == free {
			t.Fatalf("%v: Longest: %d", g, err)
		}
		for i, is := range []bool{everybody, free && !everybody, !free} {
			if is {
				counts[i+1]++
			}
		}
	}
	for kind, n := range counts {
		if n < 100 {
			t.Errorf("graphs of the kind %d: %d", kind, n)
		}
	}
}

func TestWithoutHolds(t *testing.T) { // P7.6, P7.10
	more := 0
	for _, g := range samples(8) {
		for i := range g.Moves {
			less, err := progress.Without(g, i)
			if !same(less, api.Graph{Places: g.Places, Moves: slices.Delete(slices.Clone(g.Moves), i, i+1)}) || err != api.OK || !progress.Valid(less) {
				t.Fatalf("Without(%v, %d): %v, %d", g, i, less, err)
			}
			for _, c := range claims() {
				held, _ := progress.Holds(g, c.claim, c.thread)
				holds, _ := progress.Holds(less, c.claim, c.thread)
				if held && !holds {
					t.Fatalf("%v: %v holds, but not without the move %d", g, c, i)
				}
				if holds && !held {
					more++
				}
			}
		}
	}
	if more < 1000 {
		t.Errorf("claims that hold without a move: %d", more)
	}
}

// exchanged is a thread behind the exchange of two.
func exchanged(thread, a, b int) int {
	return map[int]int{a: b, b: a, 3 - a - b: 3 - a - b}[thread]
}

func TestRenamedHolds(t *testing.T) { // P7.6, P7.10
	for i, g := range samples(9) {
		a := i % 3
		b := (a + 1 + i/3%2) % 3
		renamed, err := progress.Renamed(g, a, b)
		want := with(g)
		for i, m := range want.Moves {
			want.Moves[i].Thread = exchanged(m.Thread, a, b)
		}
		if !same(renamed, want) || err != api.OK {
			t.Fatalf("Renamed(%v, %d, %d): %v, %d", g, a, b, renamed, err)
		}
		if back, _ := progress.Renamed(renamed, b, a); !same(back, g) {
			t.Fatalf("Renamed(%v, %d, %d): %v", renamed, b, a, back)
		}
		if equal, err := progress.Renamed(g, a, a); !same(equal, g) || err != api.OK {
			t.Fatalf("Renamed(%v, %d, %d): %v, %d", g, a, a, equal, err)
		}
		for _, c := range claims() {
			thread := c.thread
			if c.claim > 0 {
				thread = exchanged(thread, a, b)
			}
			held, holds := progress.Ranks(g, c.claim, c.thread)
			ranks, err := progress.Ranks(renamed, c.claim, thread)
			if !slices.Equal(ranks, held) || err != holds {
				t.Fatalf("%v: Ranks(%v): %v, %d, renamed: %v, %d", g, c, held, holds, ranks, err)
			}
		}
	}
}

func TestOnly(t *testing.T) { // P7.6
	for _, g := range samples(10) {
		for thread := range 3 {
			want := api.Graph{Places: g.Places}
			for _, m := range g.Moves {
				if m.Thread == thread {
					want.Moves = append(want.Moves, m)
				}
			}
			only, err := progress.Only(g, thread)
			if !same(only, want) || err != api.OK {
				t.Fatalf("Only(%v, %d): %v, %d", g, thread, only, err)
			}
			free, _ := progress.Holds(only, 0, 0)
			waits, _ := progress.Holds(only, 1, thread)
			alone, _ := progress.Holds(only, 2, thread)
			if held, _ := progress.Holds(g, 2, thread); free != alone || waits != alone || held && !alone {
				t.Fatalf("Only(%v, %d): free of locks %v, waits for nobody %v, free alone %v", g, thread, free, waits, alone)
			}
		}
	}
}
