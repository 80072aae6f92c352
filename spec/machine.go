package spec

import (
	"iter"
	"slices"

	"lineal/api"
)

// machine is a specification of which Valid is true; its methods take states and calls that it has.
type machine api.Spec

// pair is a state of one machine beside a state of another one, or of the same.
type pair [2]int

// checked returns the machine of a specification, if that is valid and has all the states.
func checked(s api.Spec, states ...int) (machine, api.Errno) {
	if !Valid(s) {
		return machine{}, api.ErrSpec
	}
	m := machine(s)
	if !all(m.isState, states...) {
		return machine{}, api.ErrArg
	}
	return m, api.OK
}

// all reports whether each of the numbers is one.
func all(is func(int) bool, numbers ...int) bool {
	for _, n := range numbers {
		if !is(n) {
			return false
		}
	}
	return true
}

func isAnswer(n int) bool { return 0 <= n && n <= api.MaxSays }

func (m machine) isState(n int) bool { return 0 <= n && n < m.States }

func (m machine) isCall(n int) bool { return 0 <= n && n < m.Ops }

func (m machine) isWord(word []int) bool {
	return len(word) <= api.MaxWord && all(m.isCall, word...)
}

// isTable reports whether a table has a row for each state, and in it a number that is one for each call.
func (m machine) isTable(table [][]int, is func(int) bool) bool {
	if len(table) != m.States {
		return false
	}
	for _, row := range table {
		if len(row) != m.Ops || !all(is, row...) {
			return false
		}
	}
	return true
}

// run returns the answers of a word, and the state to which it leads.
func (m machine) run(from int, word ...int) (answers []int, to int) {
	to = from
	for _, op := range word {
		answers = append(answers, m.Says[to][op])
		to = m.Next[to][op]
	}
	return answers, to
}

// walk goes over the pairs to which words lead from a state of m and one of n, each with the first of its shortest words.
// The words come in their order, by length, then call by call: so the first pair with some property has the word that is asked for.
func walk(m, n machine, from pair) iter.Seq2[pair, []int] {
	return func(yield func(pair, []int) bool) {
		found := []pair{from}
		words := [][]int{nil}
		seen := map[pair]bool{from: true}
		for i := 0; i < len(found); i++ {
			at, word := found[i], words[i]
			if !yield(at, word) {
				return
			}
			for op := range m.Ops {
				to := pair{m.Next[at[0]][op], n.Next[at[1]][op]}
				if !seen[to] {
					seen[to] = true
					found = append(found, to)
					words = append(words, longer(word, op))
				}
			}
		}
	}
}

// longer returns a word with one more call; it is new memory, since several words begin with this one.
func longer(word []int, op int) []int {
	return append(slices.Clone(word), op)
}

// apart returns the first of the shortest words that have different answers in m and in n, which have as many calls.
func apart(m, n machine, from pair) ([]int, bool) {
	for at, word := range walk(m, n, from) {
		for op := range m.Ops {
			if m.Says[at[0]][op] != n.Says[at[1]][op] {
				return longer(word, op), true
			}
		}
	}
	return nil, false
}

func (m machine) same(a, b int) bool {
	if a == b {
		return true
	}
	_, differ := apart(m, m, pair{a, b})
	return !differ
}

// ways goes over the states that are reached, each with the first of its shortest words.
func (m machine) ways() iter.Seq2[int, []int] {
	return func(yield func(int, []int) bool) {
		for at, word := range walk(m, m, pair{0, 0}) {
			if !yield(at[0], word) {
				return
			}
		}
	}
}

// reached returns the states that are reached, in ascending order.
func (m machine) reached() []int {
	var states []int
	for state := range m.ways() {
		states = append(states, state)
	}
	slices.Sort(states)
	return states
}

// classes returns for each state the least one that is the same.
func (m machine) classes() []int {
	least := make([]int, m.States)
	for state := range least {
		for !m.same(least[state], state) {
			least[state]++
		}
	}
	return least
}

func (m machine) commute(state, a, b int) bool {
	ab, x := m.run(state, a, b)
	ba, y := m.run(state, b, a)
	return ab[0] == ba[1] && ab[1] == ba[0] && m.same(x, y)
}

// overwrites reports whether b overwrites a.
func (m machine) overwrites(state, a, b int) bool {
	both, x := m.run(state, a, b)
	alone, y := m.run(state, b)
	return both[1] == alone[0] && m.same(x, y)
}

// meddle reports whether two calls neither commute nor overwrite one another.
func (m machine) meddle(state, a, b int) bool {
	return !m.commute(state, a, b) && !m.overwrites(state, a, b) && !m.overwrites(state, b, a)
}
