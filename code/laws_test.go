package code_test

import (
	"math/rand/v2"
	"slices"
	"testing"

	"lineal/api"
	"lineal/code"
	"lineal/history"
)

// world is where a schedule leads, written as the document writes it.
type world struct {
	cells     [3]int
	registers [2][4]int
	next      [2]int // the next line of the call that is open
	open      [2]int // the index in the history of the call that is open, or -1
	turn      [2]int // how many calls have begun
	history   []api.Call
	done      [][2]int // the call, and the line of it, of each step
}

// left returns the threads that have a line left in a world.
func (w world) left(u [][]int) []int {
	var list []int
	for thread := range u {
		if w.open[thread] >= 0 || w.turn[thread] < len(u[thread]) {
			list = append(list, thread)
		}
	}
	return list
}

// replay does a schedule from its beginning, and reports whether it is one.
func replay(c [][]api.Line, u [][]int, schedule []int) (world, bool) {
	w := world{open: [2]int{-1, -1}}
	for k, thread := range schedule {
		if !slices.Contains(w.left(u), thread) {
			return w, false
		}
		if w.open[thread] < 0 {
			op := u[thread][w.turn[thread]]
			w.turn[thread]++
			w.open[thread] = len(w.history)
			w.next[thread] = 0
			w.registers[thread] = [4]int{0, 1, 0, 0}
			w.history = append(w.history, api.Call{Thread: thread, Op: op, From: 2*k + 1})
		}
		w.line(c, thread, k)
	}
	return w, true
}

// line does the next line of the call of a thread that is open.
func (w *world) line(c [][]api.Line, thread, k int) {
	i, at, r := w.open[thread], w.next[thread], &w.registers[thread]
	l := c[w.history[i].Op][at]
	w.done = append(w.done, [2]int{i, at})
	w.next[thread] = at + 1
	if l.Do == 1 {
		r[l.A] = w.cells[l.B]
	} else if l.Do == 2 {
		w.cells[l.A] = r[l.B]
	} else if l.Do == 3 && w.cells[l.A] == r[l.B] {
		w.cells[l.A] = r[l.C]
		r[3] = 1
	} else if l.Do == 3 {
		r[3] = 0
	} else if l.Do == 4 {
		r[l.A] = l.B
	} else if l.Do == 5 {
		r[l.A] = (r[l.B] + r[l.C]) % 10
	} else if l.Do == 6 && r[l.A] == 0 {
		w.next[thread] = l.B
	} else if l.Do == 7 {
		w.history[i].Says, w.history[i].To = r[l.A], 2*k+2
		w.open[thread] = -1
	}
}

// tried is a schedule, and where it leads.
type tried struct {
	schedule []int
	world
}

// all returns all schedules of at most so many steps, in ascending order.
func all(c [][]api.Line, u [][]int, most int) []tried {
	var found []tried
	var try func(schedule []int)
	try = func(schedule []int) {
		w, is := replay(c, u, schedule)
		if !is {
			return
		}
		found = append(found, tried{slices.Clone(schedule), w})
		for thread := range 2 {
			if len(schedule) < most {
				try(append(schedule, thread))
			}
		}
	}
	try(nil)
	return found
}

// full returns those of all schedules that have so many steps, or fewer and are over.
func full(found []tried, u [][]int, steps int) []tried {
	var some []tried
	for _, x := range found {
		if len(x.schedule) == steps || len(x.schedule) < steps && len(x.left(u)) == 0 {
			some = append(some, x)
		}
	}
	return some
}

// linear reports whether calls that are not listed yet can be listed, so that time is kept and a specification gives their answers.
func linear(s api.Spec, h []api.Call, state int, listed [6]bool) bool {
	ended := true
	for i, c := range h {
		if listed[i] {
			continue
		}
		ended = ended && c.To == 0
		isEarly := false
		for k, other := range h {
			isEarly = isEarly || !listed[k] && other.To != 0 && other.To < c.From
		}
		if isEarly || c.To != 0 && s.Says[state][c.Op] != c.Says {
			continue
		}
		with := listed
		with[i] = true
		if linear(s, h, s.Next[state][c.Op], with) {
			return true
		}
	}
	return ended
}

// order returns the calls of a schedule that is over in the order of their marked lines, if all have done them.
func order(w world, marks []int) ([]int, bool) {
	last := map[int]int{}
	for step, done := range w.done {
		if marks[w.history[done[0]].Op] == done[1] {
			last[done[0]] = step
		}
	}
	var list []int
	for step := range w.done {
		for i := range w.history {
			if at, is := last[i]; is && at == step {
				list = append(list, i)
			}
		}
	}
	return list, len(list) == len(w.history)
}

// answered reports whether a specification answers calls, in an order, as they say.
func answered(s api.Spec, h []api.Call, order []int) bool {
	state := 0
	for _, i := range order {
		if s.Says[state][h[i].Op] != h[i].Says {
			return false
		}
		state = s.Next[state][h[i].Op]
	}
	return true
}

// dice makes code, its uses, and specifications.
type dice struct{ *rand.Rand }

func newDice(seed uint64) dice { return dice{rand.New(rand.NewPCG(seed, 8))} }

// line makes a line of a call that has so many. Most numbers are small, so that calls of two threads meet.
func (d dice) line(lines int) api.Line {
	register := func() int { return min(d.IntN(4), d.IntN(4)) }
	cell := min(d.IntN(3), d.IntN(3), d.IntN(3))
	switch d.IntN(9) {
	case 0, 1:
		return line(1, register(), cell, 0)
	case 2, 3:
		return line(2, cell, register(), 0)
	case 4:
		return line(3, cell, register(), register())
	case 5:
		return line(4, register(), min(d.IntN(10), d.IntN(10), d.IntN(10)), 0)
	case 6:
		return line(5, register(), register(), register())
	case 7:
		return line(6, register(), d.IntN(lines), 0)
	default:
		return line(7, register(), 0, 0)
	}
}

// code makes code of so many calls, at most, each of so many lines.
func (d dice) code(calls, most int) [][]api.Line {
	var c [][]api.Line
	for range 1 + d.IntN(calls) {
		var call []api.Line
		count := 1 + max(d.IntN(most), d.IntN(most))
		for range count - 1 {
			call = append(call, d.line(count))
		}
		c = append(c, append(call, line(7, d.IntN(4), 0, 0)))
	}
	return c
}

// near makes code of known calls, of which some have one line that is another one.
func (d dice) near() [][]api.Line {
	known := lines(hasty + "|" + counter + "|" + spin + "|2010 7200|1000 7000|3001 7300|3001 6300 2020 7300|1000 6000 2010 7200|1000 2100 7000|2110 1010 6000 7000|4020 1100 2000 7100")
	var c [][]api.Line
	for range 1 + d.IntN(3) {
		call := known[d.IntN(len(known))]
		if d.IntN(2) == 0 {
			call[d.IntN(len(call)-1)] = d.line(len(call))
		}
		c = append(c, call)
	}
	return copied(c)
}

// copied returns code whose calls share no memory.
func copied(c [][]api.Line) [][]api.Line {
	var l [][]api.Line
	for _, call := range c {
		l = append(l, slices.Clone(call))
	}
	return l
}

// use makes a use of code with so many calls.
func (d dice) use(calls int) [][]int {
	var u [][]int
	for range 2 - d.IntN(8)/7 {
		var word []int
		for range max(d.IntN(4), d.IntN(3)) {
			word = append(word, d.IntN(calls))
		}
		u = append(u, word)
	}
	return u
}

// run does a call alone with cells, and returns the cells behind it and what it says, if it ends.
func run(call []api.Line, cells [3]int) ([3]int, int, bool) {
	w := world{cells: cells, history: []api.Call{{}}}
	w.registers[0] = [4]int{0, 1, 0, 0}
	for k := range 40 {
		w.line([][]api.Line{call}, 0, k)
		if w.open[0] < 0 {
			return w.cells, w.history[0].Says, true
		}
	}
	return cells, 0, false
}

// spec makes the specification of what calls answer that are done one after the other, cut off where it has too many states; another one if a call does not end.
func (d dice) spec(c [][]api.Line) api.Spec {
	states := [][3]int{{}}
	s := api.Spec{Ops: len(c)}
	for i := 0; i < len(states); i++ {
		var next, says []int
		for _, call := range c {
			cells, said, is := run(call, states[i])
			if !is {
				return d.other(len(c))
			}
			if !slices.Contains(states, cells) && len(states) < api.MaxStates {
				states = append(states, cells)
			}
			next, says = append(next, max(0, slices.Index(states, cells))), append(says, min(said, api.MaxSays))
		}
		s.Next, s.Says = append(s.Next, next), append(s.Says, says)
	}
	s.States = len(states)
	return s
}

// other makes a specification that answers 0 and 1 by chance.
func (d dice) other(ops int) api.Spec {
	s := api.Spec{States: 1 + d.IntN(3), Ops: ops}
	for range s.States {
		var next, says []int
		for range ops {
			next, says = append(next, d.IntN(s.States)), append(says, d.IntN(2))
		}
		s.Next, s.Says = append(s.Next, next), append(s.Says, says)
	}
	return s
}

// marks makes marks for code.
func (d dice) marks(c [][]api.Line) []int {
	var list []int
	for _, call := range c {
		list = append(list, d.IntN(len(call)))
	}
	return list
}

// sample is code, a use of it, and a specification for it.
type sample struct {
	code [][]api.Line
	use  [][]int
	spec api.Spec
}

// samples makes code by chance, of short and of long calls, and code that is near to what is known.
func (d dice) samples(count int) []sample {
	var list []sample
	for i := range count {
		c := d.near()
		switch i % 5 {
		case 0:
			c = d.code(4, 8)
		case 1:
			c = d.code(2, 4)
		}
		s := d.spec(c)
		if d.IntN(5) == 0 {
			s = d.other(len(c))
		}
		list = append(list, sample{c, d.use(len(c)), s})
	}
	return list
}

func TestRunOfAllSchedules(t *testing.T) { // P8.2, P8.10
	for _, x := range newDice(1).samples(150) {
		if is, err := code.ValidUse(x.code, x.use); !is || err != api.OK {
			t.Fatalf("%v is no use, or %v no code: %d", x.use, x.code, err)
		}
		for _, w := range all(x.code, x.use, 8) {
			h, err := code.Run(x.code, x.use, w.schedule)
			cells, e := code.Cells(x.code, x.use, w.schedule)
			left, f := code.Left(x.code, x.use, w.schedule)
			if err != api.OK || e != api.OK || f != api.OK {
				t.Fatalf("%v: %v: errors %d, %d, %d", x, w.schedule, err, e, f)
			}
			if !slices.Equal(h, w.history) || !slices.Equal(cells, w.cells[:]) || !slices.Equal(left, w.left(x.use)) {
				t.Fatalf("%v: %v: Run: %v, Cells: %v, Left: %v", x, w.schedule, h, cells, left)
			}
			for thread := range 3 {
				_, err := code.Run(x.code, x.use, append(slices.Clone(w.schedule), thread))
				if (err == api.OK) != slices.Contains(left, thread) || err != api.OK && err != api.ErrArg {
					t.Fatalf("%v: %v, then %d: %d", x, w.schedule, thread, err)
				}
			}
		}
	}
}

func TestSchedulesAndHistoriesOfAll(t *testing.T) { // P8.3
	for _, x := range newDice(2).samples(120) {
		found := all(x.code, x.use, 9)
		for _, steps := range []int{0, 1, 2, 5, 8, 9} {
			some := full(found, x.use, steps)
			if n, err := code.Schedules(x.code, x.use, steps); n != len(some) || err != api.OK {
				t.Fatalf("%v: Schedules(%d): %d, %d, not %d", x, steps, n, err, len(some))
			}
			l, err := code.Histories(x.code, x.use, steps)
			known := map[[6]api.Call]int{}
			for _, w := range some {
				known[key(w.history)] = len(w.history)
			}
			if len(l) != len(known) || err != api.OK {
				t.Fatalf("%v: Histories(%d): %d of %d, %d", x, steps, len(l), len(known), err)
			}
			for i, h := range l {
				if n, is := known[key(h)]; !is || n != len(h) {
					t.Fatalf("%v: Histories(%d) has %v", x, steps, h)
				}
				if i > 0 && slices.Compare(flat(l[i-1]), flat(h)) >= 0 {
					t.Fatalf("%v: Histories(%d): %v, then %v", x, steps, l[i-1], h)
				}
			}
		}
	}
}

// key returns the calls of a history as an array.
func key(h []api.Call) (k [6]api.Call) {
	copy(k[:], h)
	return k
}

// flat returns the numbers of a history, in the order in which they are compared. None is shorter in the middle: each call has five.
func flat(h []api.Call) []int {
	var list []int
	for _, c := range h {
		list = append(list, c.Thread, c.Op, c.Says, c.From, c.To)
	}
	return list
}

func TestSoundByAllOrders(t *testing.T) { // P8.4, P8.8
	count := map[bool]int{}
	for _, x := range newDice(3).samples(400) {
		found := all(x.code, x.use, 9)
		sound := true
		for _, steps := range []int{0, 3, 6, 9} {
			var first []int
			want := true
			for _, w := range full(found, x.use, steps) {
				is := linear(x.spec, w.history, 0, [6]bool{})
				if !is && want {
					want, first = false, w.schedule
				}
				if breaks, err := code.Breaks(x.spec, x.code, x.use, w.schedule); breaks == is || err != api.OK {
					t.Fatalf("%v: Breaks(%v): %v, %d", x, w.schedule, breaks, err)
				}
			}
			is, err := code.Sound(x.spec, x.code, x.use, steps)
			if is != want || err != api.OK || is && !sound {
				t.Fatalf("%v: Sound(%d): %v, %d", x, steps, is, err)
			}
			none := api.OK
			if want {
				none = api.ErrNone
			}
			if schedule, err := code.Break(x.spec, x.code, x.use, steps); !slices.Equal(schedule, first) || err != none {
				t.Fatalf("%v: Break(%d): %v, %d, not %v", x, steps, schedule, err, first)
			}
			sound = want
		}
		count[sound]++
	}
	if count[true] < 100 || count[false] < 100 {
		t.Errorf("sound or not: %v", count)
	}
}

// TestSoundForLess checks that what is sound for 12 steps is so for fewer, and that no schedule of at most so many breaks.
func TestSoundForLess(t *testing.T) { // P8.8
	sound, long := 0, 0
	for _, x := range newDice(4).samples(80) {
		if is, _ := code.Sound(x.spec, x.code, x.use, 12); !is {
			continue
		}
		sound++
		for steps := range 12 {
			if is, err := code.Sound(x.spec, x.code, x.use, steps); !is || err != api.OK {
				t.Fatalf("%v: Sound for 12, and for %d: %v, %d", x, steps, is, err)
			}
		}
		found := all(x.code, x.use, 10)
		if len(found) > 100 {
			long++
		}
		for _, w := range found {
			if is, err := code.Breaks(x.spec, x.code, x.use, w.schedule); is || err != api.OK {
				t.Fatalf("%v: Sound for 12, and Breaks(%v): %v, %d", x, w.schedule, is, err)
			}
		}
	}
	if sound < 30 || long < 20 {
		t.Errorf("sound: %d, with many schedules: %d", sound, long)
	}
}

func TestMarkedByAllSchedules(t *testing.T) { // P8.5, P8.9
	count := map[bool]int{}
	d := newDice(5)
	for _, x := range d.samples(150) {
		found := all(x.code, x.use, 12)
		for range 3 {
			marks := d.marks(x.code)
			want, over := true, 0
			for _, w := range found {
				if len(w.left(x.use)) == 0 {
					list, is := order(w.world, marks)
					want = want && is && answered(x.spec, w.history, list)
					over++
				}
			}
			if is, err := code.Marked(x.spec, x.code, x.use, marks); is != want || err != api.OK {
				t.Fatalf("%v: Marked(%v): %v, %d", x, marks, is, err)
			}
			if over > 1 {
				count[want]++
			}
			for _, w := range sparse(found, 60) {
				checkOrder(t, x, w, marks, want)
			}
		}
	}
	if count[true] < 60 || count[false] < 60 {
		t.Errorf("marked or not: %v", count)
	}
}

// sparse returns some of many schedules.
func sparse(found []tried, count int) []tried {
	var some []tried
	for i, w := range found {
		if i%(len(found)/count+1) == 0 {
			some = append(some, w)
		}
	}
	return some
}

// checkOrder checks the marked order of a schedule; it keeps time, and if marks prove code, it is allowed.
func checkOrder(t *testing.T, x sample, w tried, marks []int, marked bool) {
	t.Helper()
	list, err := code.Order(x.code, x.use, w.schedule, marks)
	want, is := order(w.world, marks)
	if !is || len(w.left(x.use)) > 0 {
		if len(list) > 0 || err != api.ErrNone {
			t.Fatalf("%v: Order(%v, %v): %v, %d", x, w.schedule, marks, list, err)
		}
		return
	}
	if !slices.Equal(list, want) || err != api.OK {
		t.Fatalf("%v: Order(%v, %v): %v, %d, not %v", x, w.schedule, marks, list, err, want)
	}
	if time, threads, e := history.Keeps(w.history, list); !time || !threads || e != api.OK {
		t.Fatalf("%v: Order(%v, %v): %v does not keep time", x, w.schedule, marks, list)
	}
	if !marked {
		return
	}
	if is, e := history.IsOrder([]api.Spec{x.spec}, w.history, list); !is || e != api.OK {
		t.Fatalf("%v: Marked(%v), and Order(%v) is none: %v", x, marks, w.schedule, list)
	}
	if is, e := code.Breaks(x.spec, x.code, x.use, w.schedule); is || e != api.OK {
		t.Fatalf("%v: Marked(%v), and Breaks(%v)", x, marks, w.schedule)
	}
}

func TestFollowsAndEndsOfMany(t *testing.T) { // P8.6
	follows, ends := map[bool]int{}, map[bool]int{}
	d := newDice(6)
	for _, x := range d.samples(300) {
		word := x.use[0]
		long := all(x.code, [][]int{word}, 12)
		alone := long[len(long)-1]
		var count []int
		for i := range alone.history {
			count = append(count, i)
		}
		want := len(alone.left([][]int{word})) == 0 && answered(x.spec, alone.history, count)
		if is, err := code.Follows(x.spec, x.code, word); is != want || err != api.OK {
			t.Fatalf("%v: Follows(%v): %v, %d", x, word, is, err)
		}
		follows[want]++
	}
	for _, x := range d.samples(100) {
		want := true
		for _, w := range all(x.code, x.use, 12) {
			want = want && (len(w.schedule) < 12 || len(w.left(x.use)) == 0)
		}
		if is, err := code.Ends(x.code, x.use); is != want || err != api.OK {
			t.Fatalf("%v: Ends: %v, %d", x, is, err)
		}
		ends[want]++
	}
	if min(follows[true], follows[false], ends[true], ends[false]) < 25 {
		t.Errorf("follows or not: %v; ends or not: %v", follows, ends)
	}
}

// TestBeginnings checks that the histories of beginnings are what was there at the moment, and that threads do what the use says.
func TestBeginnings(t *testing.T) { // P8.10
	for _, x := range newDice(7).samples(60) {
		for _, w := range sparse(all(x.code, x.use, 12), 40) {
			whole, _ := code.Run(x.code, x.use, w.schedule)
			for steps := range len(w.schedule) + 1 {
				h, err := code.Run(x.code, x.use, w.schedule[:steps])
				until, e := history.Until(whole, 2*steps)
				if !slices.Equal(h, until) || err != api.OK || e != api.OK {
					t.Fatalf("%v: Run(%v): %v, not %v", x, w.schedule[:steps], h, until)
				}
			}
			for thread, word := range x.use {
				by, err := history.By(whole, thread)
				for i, c := range by {
					if c.Op != word[i] || c.Object != 0 || c.To == 0 && i != len(by)-1 {
						t.Fatalf("%v: Run(%v): %v", x, w.schedule, whole)
					}
				}
				if err != api.OK || len(w.left(x.use)) == 0 && len(by) != len(word) {
					t.Fatalf("%v: Run(%v): %v, %d", x, w.schedule, whole, err)
				}
			}
		}
	}
}

func TestSwappedOfMany(t *testing.T) { // P8.7, P8.11
	d := newDice(8)
	for _, x := range d.samples(200) {
		a, b := d.IntN(3), d.IntN(3)
		c, err := code.Swapped(x.code, a, b)
		back, e := code.Swapped(c, b, a)
		if err != api.OK || e != api.OK || !sameCode(back, x.code) || !code.Valid(c) {
			t.Fatalf("%v: Swapped(%d, %d): %v, then %v", x, a, b, c, back)
		}
		one, _ := code.Histories(x.code, x.use, 9)
		other, err := code.Histories(c, x.use, 9)
		if !sameRuns(one, other) || err != api.OK {
			t.Fatalf("%v: Swapped(%d, %d): %v has other histories", x, a, b, c)
		}
		for _, w := range sparse(all(x.code, x.use, 9), 20) {
			cells, err := code.Cells(c, x.use, w.schedule)
			if err != api.OK {
				t.Fatalf("%v: Swapped(%d, %d): %v, %d", x, a, b, c, err)
			}
			cells[a], cells[b] = cells[b], cells[a]
			if !slices.Equal(cells, w.cells[:]) {
				t.Fatalf("%v: Swapped(%d, %d): Cells: %v", x, a, b, cells)
			}
		}
	}
}

// TestEqualInputs checks that equal inputs give equal results.
func TestEqualInputs(t *testing.T) {
	for _, x := range newDice(9).samples(30) {
		first, err := code.Break(x.spec, x.code, x.use, 12)
		histories, _ := code.Histories(x.code, x.use, 12)
		for range 2 {
			again, e := code.Break(x.spec, x.code, x.use, 12)
			l, _ := code.Histories(x.code, x.use, 12)
			if !slices.Equal(first, again) || err != e || !sameRuns(histories, l) {
				t.Fatalf("%v: Break: %v, %d, then %v, %d", x, first, err, again, e)
			}
		}
	}
}
