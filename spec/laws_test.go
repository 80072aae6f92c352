package spec_test

import (
	"slices"
	"testing"

	"lineal/api"
	"lineal/spec"
)

// small returns all specifications of some states and calls whose answers are 0 or 1.
func small(states, ops int) []api.Spec {
	cells := states * ops
	total := 1
	for range cells {
		total *= states * 2
	}
	var list []api.Spec
	for code := range total {
		s := api.Spec{States: states, Ops: ops}
		for range states {
			next, says := make([]int, ops), make([]int, ops)
			for op := range ops {
				next[op], code = code%states, code/states
				says[op], code = code%2, code/2
			}
			s.Next, s.Says = append(s.Next, next), append(s.Says, says)
		}
		list = append(list, s)
	}
	return list
}

// dice makes numbers that look like chance, but are always the same.
type dice uint32

func (d *dice) below(n int) int {
	*d = *d*1664525 + 1013904223
	return int(*d>>16) % n
}

// large returns specifications of up to 8 states; many of their states are the same as another one, since each stands for one of fewer kinds.
func large(count int) []api.Spec {
	d := dice(1)
	var list []api.Spec
	for range count {
		kinds := 1 + d.below(8)
		states, ops := kinds+d.below(9-kinds), 1+d.below(4)
		next, says := make([][]int, kinds), make([][]int, kinds)
		for k := range kinds {
			for range ops {
				next[k] = append(next[k], d.below(kinds))
				says[k] = append(says[k], d.below(2)*d.below(6))
			}
		}
		s := api.Spec{States: states, Ops: ops}
		for i := range states {
			row := make([]int, ops)
			for op := range ops {
				row[op] = next[i%kinds][op]
				if other := row[op] + kinds; other < states && d.below(2) == 0 {
					row[op] = other
				}
			}
			s.Next = append(s.Next, row)
			s.Says = append(s.Says, slices.Clone(says[i%kinds]))
		}
		list = append(list, s)
	}
	return list
}

func samples() []api.Spec {
	list := []api.Spec{flag(), place(), partly(), bits(), still(8, 4), ring(0, 0, 0, 0, 0, 0, 0, 1)}
	for _, size := range [][2]int{{1, 1}, {1, 2}, {2, 1}, {2, 2}, {3, 1}} {
		list = append(list, small(size[0], size[1])...)
	}
	return append(list, large(300)...)
}

// sames tells by its own way, by rounds, which states are the same.
func sames(s api.Spec) (same [api.MaxStates][api.MaxStates]bool) {
	for a := range s.States {
		for b := range s.States {
			same[a][b] = slices.Equal(s.Says[a], s.Says[b])
		}
	}
	for range s.States * s.States {
		for a := range s.States {
			for b := range s.States {
				for op := range s.Ops {
					same[a][b] = same[a][b] && same[s.Next[a][op]][s.Next[b][op]]
				}
			}
		}
	}
	return same
}

// firstWord tries all words of at most `most` calls, by length, then call by call, and returns the first that is one.
func firstWord(ops, most int, is func(word []int) bool) ([]int, bool) {
	for length := range most + 1 {
		word := make([]int, length)
		for {
			if is(word) {
				return word, true
			}
			at := length - 1
			for at >= 0 && word[at] == ops-1 {
				word[at] = 0
				at--
			}
			if at < 0 {
				break
			}
			word[at]++
		}
	}
	return nil, false
}

// done does a word by itself.
func done(s api.Spec, from int, word []int) (answers []int, to int) {
	for _, op := range word {
		answers = append(answers, s.Says[from][op])
		from = s.Next[from][op]
	}
	return answers, from
}

func TestWordTells(t *testing.T) { // P1.3, P1.8, P2
	for _, s := range samples() {
		same := sames(s)
		for a := range s.States {
			for b := range s.States {
				word, err := spec.Word(s, a, b)
				is, _ := spec.Same(s, a, b)
				if is != same[a][b] || is != (err == api.ErrNone) {
					t.Fatalf("%v: Same(%d, %d): %v; Word: %v, %d", s, a, b, is, word, err)
				}
				if is {
					continue
				}
				if tells, e := spec.Tells(s, a, b, word); !tells || e != api.OK || err != api.OK || len(word) > s.States-1 {
					t.Fatalf("%v: Word(%d, %d): %v, %d", s, a, b, word, err)
				}
				want, _ := firstWord(s.Ops, len(word), func(w []int) bool {
					one, _ := done(s, a, w)
					other, _ := done(s, b, w)
					return !slices.Equal(one, other)
				})
				if !slices.Equal(word, want) {
					t.Fatalf("%v: Word(%d, %d): %v, not %v", s, a, b, word, want)
				}
			}
		}
	}
}

func TestClassesAreOfTheSame(t *testing.T) { // P1.3, P1.8
	for _, s := range samples() {
		classes, err := spec.Classes(s)
		if err != api.OK || len(classes) != s.States {
			t.Fatalf("%v: Classes: %v, %d", s, classes, err)
		}
		same := sames(s)
		for a := range s.States {
			if classes[a] > a || !same[a][classes[a]] {
				t.Fatalf("%v: Classes: %v", s, classes)
			}
			for b := range s.States {
				if (classes[a] == classes[b]) != same[a][b] {
					t.Fatalf("%v: Classes: %v", s, classes)
				}
				for op := range s.Ops {
					if same[a][b] && (classes[s.Next[a][op]] != classes[s.Next[b][op]] || s.Says[a][op] != s.Says[b][op]) {
						t.Fatalf("%v: %d and %d are not the same behind %d", s, a, b, op)
					}
				}
			}
		}
	}
}

func TestWaysLead(t *testing.T) { // P1.4, P1.9
	for _, s := range samples() {
		reached, _ := spec.Reached(s)
		var want []int
		for to := range s.States {
			way, err := spec.Way(s, to)
			if err == api.ErrNone && !slices.Contains(reached, to) {
				continue
			}
			want = append(want, to)
			if _, end, e := spec.Run(s, 0, way); end != to || e != api.OK || err != api.OK || len(way) > s.States-1 {
				t.Fatalf("%v: Way(%d): %v, %d", s, to, way, err)
			}
			first, _ := firstWord(s.Ops, len(way), func(w []int) bool {
				_, end := done(s, 0, w)
				return end == to
			})
			if !slices.Equal(way, first) {
				t.Fatalf("%v: Way(%d): %v, not %v", s, to, way, first)
			}
			for op := range s.Ops {
				if !slices.Contains(reached, s.Next[to][op]) {
					t.Fatalf("%v: Reached: %v", s, reached)
				}
			}
		}
		if !slices.Equal(reached, want) {
			t.Fatalf("%v: Reached: %v, not %v", s, reached, want)
		}
	}
}

func TestLeastIsLeast(t *testing.T) { // P1.4, P1.9, P2
	for _, s := range samples() {
		least, err := spec.Least(s)
		if err != api.OK || !spec.Valid(least) || least.States > s.States {
			t.Fatalf("%v: Least: %v, %d", s, least, err)
		}
		if is, _ := spec.Alike(s, least); !is {
			t.Fatalf("%v: not alike: %v", s, least)
		}
		if again, _ := spec.Least(least); !equal(least, again) {
			t.Fatalf("%v: Least: %v, of which it is %v", s, least, again)
		}
		if l, _ := spec.Reached(least); len(l) != least.States {
			t.Fatalf("%v: Least: %v has states that are not reached", s, least)
		}
		if l, _ := spec.Classes(least); slices.ContainsFunc(l, func(c int) bool { return l[c] != c }) || !slices.IsSorted(l) || len(slices.Compact(l)) != least.States {
			t.Fatalf("%v: Least: %v has states that are the same", s, least)
		}
		var last []int
		for state := range least.States { // the states are numbered as they are first reached
			way, _ := spec.Way(least, state)
			if state > 0 && (len(way) < len(last) || len(way) == len(last) && slices.Compare(way, last) < 0) {
				t.Fatalf("%v: Least: %v: %v leads to %d, behind %v", s, least, way, state, last)
			}
			last = way
		}
	}
}

func TestAlikeIfLeastAreEqual(t *testing.T) { // P1.5, P1.9
	lists := [][]api.Spec{small(2, 2), append(small(3, 1), small(2, 1)...), large(150)}
	for _, list := range lists {
		least := make([]api.Spec, len(list))
		for i, s := range list {
			least[i], _ = spec.Least(s)
		}
		for i, s := range list {
			for k, other := range list {
				is, err := spec.Alike(s, other)
				if is != equal(least[i], least[k]) || err != api.OK {
					t.Fatalf("Alike(%v, %v): %v, %d", s, other, is, err)
				}
				word, err := spec.Unlike(s, other)
				if s.Ops != other.Ops && err != api.ErrArg || s.Ops == other.Ops && (err == api.ErrNone) != is {
					t.Fatalf("Unlike(%v, %v): %v, %d", s, other, word, err)
				}
				if err == api.OK && (i+k)%7 == 0 {
					checkUnlike(t, s, other, word)
				}
			}
		}
	}
}

func checkUnlike(t *testing.T, s, other api.Spec, word []int) {
	want, _ := firstWord(s.Ops, len(word), func(w []int) bool {
		one, _ := done(s, 0, w)
		two, _ := done(other, 0, w)
		return !slices.Equal(one, two)
	})
	if !slices.Equal(word, want) {
		t.Fatalf("Unlike(%v, %v): %v, not %v", s, other, word, want)
	}
}

func TestCallsAsTheyAreDone(t *testing.T) { // P1.6, P1.10
	for _, s := range samples() {
		same := sames(s)
		reached, _ := spec.Reached(s)
		first := []int{0, 0, 0, int(api.ErrNone)}
		for state := range s.States {
			for a := range s.Ops {
				for b := range s.Ops {
					ab, x := done(s, state, []int{a, b})
					ba, y := done(s, state, []int{b, a})
					_, z := done(s, state, []int{b})
					commute := ab[0] == ba[1] && ab[1] == ba[0] && same[x][y]
					overwrites := ab[1] == ba[0] && same[x][z]
					if is, err := spec.Commute(s, state, a, b); is != commute || err != api.OK {
						t.Fatalf("%v: Commute(%d, %d, %d): %v, %d", s, state, a, b, is, err)
					}
					if is, _ := spec.Commute(s, state, b, a); is != commute {
						t.Fatalf("%v: Commute(%d, %d, %d): %v, but not turned", s, state, b, a, is)
					}
					if is, err := spec.Overwrites(s, state, a, b); is != overwrites || err != api.OK {
						t.Fatalf("%v: Overwrites(%d, %d, %d): %v, %d", s, state, a, b, is, err)
					}
					other, _ := spec.Overwrites(s, state, b, a)
					if a <= b && first[3] != 0 && slices.Contains(reached, state) && !commute && !overwrites && !other {
						first = []int{state, a, b, 0}
					}
				}
			}
		}
		if state, a, b, err := spec.Meddles(s); !slices.Equal(first, []int{state, a, b, int(err)}) {
			t.Fatalf("%v: Meddles: %d, %d, %d, %d, not %v", s, state, a, b, err, first)
		}
	}
}

func TestReadsCommute(t *testing.T) { // P1.6, P1.10
	for _, s := range samples() {
		same := sames(s)
		reached, _ := spec.Reached(s)
		for a := range s.Ops {
			want, steady := true, true
			for _, state := range reached {
				want = want && same[state][s.Next[state][a]]
				steady = steady && s.Says[state][a] == s.Says[0][a]
			}
			if is, err := spec.Reads(s, a); is != want || err != api.OK {
				t.Fatalf("%v: Reads(%d): %v, %d", s, a, is, err)
			}
			if !want || !steady {
				continue
			}
			for _, state := range reached {
				for b := range s.Ops {
					if is, _ := spec.Commute(s, state, a, b); !is {
						t.Fatalf("%v: %d reads, but does not commute with %d in %d", s, a, b, state)
					}
				}
			}
		}
	}
}

func TestBothSideBySide(t *testing.T) { // P1.7, P1.11
	list := slices.Concat(small(2, 1), small(1, 2), large(40), []api.Spec{flag(), place()})
	for _, s := range list {
		for _, other := range list {
			both, err := spec.Both(s, other)
			if s.States*other.States > api.MaxStates || s.Ops+other.Ops > api.MaxOps {
				if err != api.ErrLimit {
					t.Fatalf("Both(%v, %v): %d", s, other, err)
				}
				continue
			}
			if err != api.OK || !spec.Valid(both) {
				t.Fatalf("Both(%v, %v): %v, %d", s, other, both, err)
			}
			for state := range both.States {
				i, k := state/other.States, state%other.States
				for a := range s.Ops {
					if both.Next[state][a] != s.Next[i][a]*other.States+k || both.Says[state][a] != s.Says[i][a] {
						t.Fatalf("Both(%v, %v): %v", s, other, both)
					}
					for b := range other.Ops {
						if is, _ := spec.Commute(both, state, a, s.Ops+b); !is {
							t.Fatalf("Both(%v, %v): %d and %d do not commute in %d", s, other, a, s.Ops+b, state)
						}
					}
				}
				for b := range other.Ops {
					if both.Next[state][s.Ops+b] != i*other.States+other.Next[k][b] || both.Says[state][s.Ops+b] != other.Says[k][b] {
						t.Fatalf("Both(%v, %v): %v", s, other, both)
					}
				}
			}
		}
	}
}

func TestBegunTwice(t *testing.T) { // P1.7, P1.11
	d := dice(7)
	for _, s := range samples() {
		for state := range s.States {
			begun, err := spec.Begun(s, state)
			if err != api.OK || !spec.Valid(begun) {
				t.Fatalf("%v: Begun(%d): %v, %d", s, state, begun, err)
			}
			if again, _ := spec.Begun(begun, state); !equal(again, s) {
				t.Fatalf("%v: Begun(%d) twice: %v", s, state, again)
			}
			name := func(i int) int {
				switch i {
				case 0:
					return state
				case state:
					return 0
				}
				return i
			}
			word := make([]int, api.MaxWord)
			for i := range word {
				word[i] = d.below(s.Ops)
			}
			for from := range s.States {
				answers, to, _ := spec.Run(s, from, word)
				l, end, _ := spec.Run(begun, name(from), word)
				if !slices.Equal(l, answers) || end != name(to) {
					t.Fatalf("%v: Begun(%d): from %d: %v, %d, not %v, %d", s, state, from, l, end, answers, name(to))
				}
			}
		}
	}
}
