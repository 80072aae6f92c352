package delay_test

import (
	"slices"
	"strings"
	"testing"

	"lineal/api"
	"lineal/delay"
)

// accesses returns those of a text: threads with | between them, each access w (a write) or r and its cell.
func accesses(text string) [][]api.Access {
	var x [][]api.Access
	for thread := range strings.SplitSeq(text, "|") {
		var list []api.Access
		for _, a := range strings.Fields(thread) {
			list = append(list, api.Access{Var: int(a[1] - '0'), Write: a[0] == 'w'})
		}
		x = append(x, list)
	}
	return x
}

// numbers returns the digits of a text.
func numbers(text string) []int {
	var list []int
	for _, digit := range []byte(text) {
		list = append(list, int(digit-'0'))
	}
	return list
}

// stations returns those of a text, such as "001 112".
func stations(text string) [][3]int {
	var list [][3]int
	for _, s := range strings.Fields(text) {
		list = append(list, [3]int(numbers(s)))
	}
	return list
}

// fences returns those of a text, such as "00 10".
func fences(text string) [][2]int {
	var list [][2]int
	for _, f := range strings.Fields(text) {
		list = append(list, [2]int(numbers(f)))
	}
	return list
}

// costs returns those of a text: threads with | between them, each a digit for each of its fences.
func costs(text string) [][]int {
	var list [][]int
	for thread := range strings.SplitSeq(text, "|") {
		list = append(list, numbers(thread))
	}
	return list
}

// same reports whether lists of lists are the same.
func same[T comparable](a, b [][]T) bool { return slices.EqualFunc(a, b, slices.Equal) }

// Accesses of which the names tell what they are.
const (
	alone     = "w0 w1 w2"
	buffering = "w0 r1|w1 r0"             // each thread writes, and reads what the other one has written
	message   = "w0 w1|r1 r0"             // what is written is read the other way round
	straight  = "w0 w1|r0 r1"             // what is written is read in the same order
	chain     = "w0|r0 w1|r1 r0"          // what one thread has read it tells the next one
	apart     = "w0 w1|r0"                // a thread meets one access alone
	long      = "w0 r2 r1|w1 r0"          // between the accesses of a pair there is one that meets nothing
	readers   = "r0 r1|r1 r0"             // nobody writes
	one       = "w0 w0|r0 r0|w0"          // there is one cell
	ring      = "w0 w1|w1 w2|w2 w0"       // each thread meets each other one in one cell
	broad     = "w0 w1 w2|w2 w1 w0"       // each access meets one
	full      = "w0 w1 w2 w0|w0 w1 w2 w0" // a cell is met by two of each thread
	shared    = "w0 w2 r1 w0|w1 r0|r0 w2" // two needed pairs of a thread share its second fence
)

func TestConflictAndPairs(t *testing.T) { // P9.2
	for _, c := range []struct {
		text      string
		conflicts int
		pairs     string
	}{
		{"", 0, ""}, {"||", 0, ""}, {"w0", 0, ""}, {"r0|r0", 0, ""}, {"w0|r0", 1, ""}, {"r0|w0", 1, ""}, {"w0|w0", 1, ""}, {"w0|w1", 0, ""}, {"w2|w2|w2", 3, ""},
		{alone, 0, "001 002 012"}, {buffering, 2, "001 101"}, {message, 2, "001 101"}, {straight, 2, "001 101"}, {chain, 3, "101 201"}, {apart, 1, "001"},
		{long, 2, "001 002 012 101"}, {readers, 0, "001 101"}, {one, 8, ""}, {ring, 3, "001 101 201"}, {broad, 3, "001 002 012 101 102 112"},
		{full, 6, "001 002 012 013 023 101 102 112 113 123"}, {"w0 r0 w1 r1|", 0, "002 003 012 013"}, {"|w0 r0|r0 w0", 3, ""},
	} {
		x := accesses(c.text)
		if !delay.Valid(x) {
			t.Errorf("%s is not valid", c.text)
		}
		if n, err := delay.Conflicts(x); n != c.conflicts || err != api.OK {
			t.Errorf("Conflicts(%s): %d, %d", c.text, n, err)
		}
		if l, err := delay.Pairs(x); !slices.Equal(l, stations(c.pairs)) || err != api.OK {
			t.Errorf("Pairs(%s): %v, %d", c.text, l, err)
		}
	}
	x := accesses("w0 r1 r0|r0 w1|r1 w1 w2 r2")
	for _, c := range []struct {
		at   string
		want bool
	}{
		{"0010", true}, {"1000", true}, {"0011", false}, {"0111", true}, {"0120", false}, {"0121", true}, {"0210", false}, {"0202", false}, {"0002", false}, {"0200", false}, {"2223", false}, {"1120", true}, {"2111", true}, {"1023", false},
	} {
		n := numbers(c.at)
		if is, err := delay.Conflict(x, n[0], n[1], n[2], n[3]); is != c.want || err != api.OK {
			t.Errorf("Conflict(%s): %v, %d", c.at, is, err)
		}
	}
}

// invalid returns accesses that are none.
func invalid() map[string][][]api.Access {
	return map[string][][]api.Access{
		"no thread":     nil,
		"an empty list": {},
		"4 threads":     {nil, nil, nil, nil},
		"5 accesses":    accesses("|r0 r0 r0 r0 r0"),
		"more accesses": {make([]api.Access, 1000)},
		"the cell 3":    accesses("r0|r3"),
		"the cell -1":   {{{Var: 0}, {Var: -1}}},
		"a write to 3":  accesses("w0 w3"),
		"a great cell":  {{{Var: 1 << 62}}},
		"a small cell":  {nil, nil, {{Var: -1 << 63, Write: true}}},
	}
}

func TestValid(t *testing.T) { // P9.2
	for kind, x := range invalid() {
		if delay.Valid(x) {
			t.Errorf("%s is valid", kind)
		}
	}
	for _, text := range []string{"", "|", "||", "r0 r1 r2 w0", full, "||w2 w2 w2 w2", "w0 w1 w2 w0|w0 w1 w2 w0|w0 w1 w2 w0"} {
		if !delay.Valid(accesses(text)) {
			t.Errorf("%s is not valid", text)
		}
	}
}

func TestCircles(t *testing.T) { // P9.3
	for _, c := range []struct {
		text    string
		circles int
		needed  string
	}{
		{"", 0, ""}, {"||", 0, ""}, {alone, 0, ""}, {buffering, 2, "001 101"}, {message, 2, "001 101"}, {straight, 0, ""}, {chain, 3, "101 201"}, {apart, 0, ""}, {long, 2, "002 101"}, {readers, 0, ""}, {one, 0, ""},
		{ring, 3, "001 101 201"}, {broad, 6, "001 002 012 101 102 112"}, {full, 8, "001 002 013 023 101 102 113 123"}, {"|w0 r1|w1 r0", 2, "101 201"},
		// What comes about in no order of the threads is no circle.
		{"w0 w1|w1 w2|w0 w2", 0, ""}, {"w0|w1|w2", 0, ""}, {"w0|w0 w1|w1", 0, ""}, {"w0 w1|w0|w1", 0, ""}, {"w0 w1|w0 w1|w0 w1", 0, ""},
		// One circle with two threads, and one that goes over the third one.
		{"r0 r1|w0|w1 w0", 5, "001 201"},
		// The third thread takes part, but with accesses alone.
		{"w0 r2|r0|w2 r0", 2, "001 201"}, {"w0 r2|w0|w2 r0", 5, "001 201"},
		{"w0 r1|w1 r2|w2 r0", 3, "001 101 201"}, {"w0 r1 r1|w1 r0", 4, "001 002 101"},
	} {
		x := accesses(c.text)
		if n, err := delay.Circles(x); n != c.circles || err != api.OK {
			t.Errorf("Circles(%s): %d, %d", c.text, n, err)
		}
		needed := stations(c.needed)
		if l, err := delay.Needed(x); !slices.Equal(l, needed) || err != api.OK {
			t.Errorf("Needed(%s): %v, %d", c.text, l, err)
		}
		pairs, _ := delay.Pairs(x)
		for _, pair := range pairs {
			l, err := delay.Circle(x, pair)
			is, _ := delay.IsCircle(x, l)
			if want := slices.Contains(needed, pair); is != want || slices.Contains(l, pair) != want || (err == api.OK) != want || len(l) > 0 != want {
				t.Errorf("Circle(%s, %v): %v, %d", c.text, pair, l, err)
			}
			if !slices.Contains(needed, pair) && err != api.ErrNone {
				t.Errorf("Circle(%s, %v): %v, %d", c.text, pair, l, err)
			}
		}
	}
}

func TestIsCircle(t *testing.T) { // P9.3
	for _, c := range []struct {
		text, circle string
		want         bool
	}{
		{buffering, "001 101", true}, {buffering, "101 001", true}, {buffering, "001", false}, {buffering, "", false}, {buffering, "000 111", false}, {buffering, "001 100", false}, {buffering, "001 111", false}, {buffering, "001 001", false},
		{buffering, "001 101 001", false}, {buffering, "001 101 001 101", false}, {buffering, "001 101 201", false}, {buffering, "010 110", false}, {buffering, "001 102", false}, {buffering, "002 101", false}, {buffering, "201 101", false},
		{chain, "000 101 201", true}, {chain, "101 201 000", true}, {chain, "201 000 101", true}, {chain, "000 201 101", false}, {chain, "000 100 201", false}, {chain, "000 101 211", false}, {chain, "000 101", false}, {chain, "101 201", false}, {chain, "000 100", false}, {chain, "000 101 201 000", false}, {chain, "011 101 201", false},
		// Accesses alone are no circle, though they conflict all round.
		{"w0|w0", "000 100", false}, {"w0|w0|w0", "000 100 200", false}, {"w0 w1|w0|w0", "000 100 200", false},
		// Two accesses of one cell are no station.
		{one, "001 101", false}, {one, "001 100", false}, {"w0 w0 w1|w1 w0", "002 101", true}, {"w0 w0 w1|w1 w0", "012 101", true}, {"w0 w0 w1|w1 w0", "001 101", false},
		{long, "002 101", true}, {long, "001 101", false}, {long, "012 101", false}, {long, "012 100", false}, {straight, "001 101", false}, {readers, "001 101", false}, {alone, "002", false},
	} {
		if is, err := delay.IsCircle(accesses(c.text), stations(c.circle)); is != c.want || err != api.OK {
			t.Errorf("IsCircle(%s, %s): %v, %d", c.text, c.circle, is, err)
		}
	}
	for _, n := range nowhere() {
		for _, list := range [][][3]int{{{n, 0, 1}, {1, 0, 1}}, {{0, n, 1}, {1, 0, 1}}, {{0, 0, n}, {1, 0, 1}}, {{0, 0, 1}, {1, 0, n}}, {{n, n, n}}, {{0, 0, 1}, {n, n, n}}, {{0, n, n}, {1, n, n}}} {
			if is, err := delay.IsCircle(accesses(buffering), list); is || err != api.OK {
				t.Errorf("IsCircle(%v): %v, %d", list, is, err)
			}
		}
	}
	if is, err := delay.IsCircle(accesses(buffering), make([][3]int, 100000)); is || err != api.OK {
		t.Errorf("IsCircle of many: %v, %d", is, err)
	}
}

func TestHeld(t *testing.T) { // P9.4
	for _, c := range []struct{ text, fences, held string }{
		{buffering, "", ""}, {buffering, "00", "001"}, {buffering, "10", "101"}, {buffering, "00 10", "001 101"}, {"", "", ""},
		{long, "00", "001 002"}, {long, "01", "002 012"}, {long, "00 01", "001 002 012"}, {long, "01 10", "002 012 101"},
		{full, "00", "001 002"}, {full, "01", "002 012 013"}, {full, "02", "013 023"}, {full, "11", "102 112 113"}, {full, "02 10", "013 023 101 102"},
		{one, "00 10", ""}, {alone, "01", "002 012"}, {"|w0 w1", "10", "101"},
	} {
		if l, err := delay.Held(accesses(c.text), fences(c.fences)); !slices.Equal(l, stations(c.held)) || err != api.OK {
			t.Errorf("Held(%s, %s): %v, %d", c.text, c.fences, l, err)
		}
	}
}

func TestEnoughAndCost(t *testing.T) { // P9.4
	for _, c := range []struct {
		text, fences string
		enough       bool
		costs        string
		cost         int
	}{
		{buffering, "", false, "1|1", 0}, {buffering, "00", false, "7|2", 7}, {buffering, "10", false, "7|2", 2}, {buffering, "00 10", true, "7|2", 9}, {straight, "", true, "9|9", 0}, {straight, "00 10", true, "9|9", 18},
		{"", "", true, "", 0}, {"||", "", true, "||", 0}, {"w0|r0", "", true, "|", 0}, {long, "00 10", true, "12|3", 4}, {long, "01 10", true, "12|3", 5}, {long, "00 01", false, "12|3", 3}, {long, "00 01 10", true, "12|3", 6}, {long, "10", false, "12|3", 3},
		{broad, "00 01 10 11", true, "12|48", 15}, {broad, "00 10 11", false, "12|48", 13}, {chain, "10 20", true, "|5|6", 11}, {chain, "10", false, "|5|6", 5}, {full, "00 02 10 12", true, "123|456", 14}, {full, "01", false, "123|456", 2}, {full, "00 01 02 10 11 12", true, "999|999", 54},
	} {
		x := accesses(c.text)
		if is, err := delay.Enough(x, fences(c.fences)); is != c.enough || err != api.OK {
			t.Errorf("Enough(%s, %s): %v, %d", c.text, c.fences, is, err)
		}
		if n, err := delay.Cost(x, costs(c.costs), fences(c.fences)); n != c.cost || err != api.OK {
			t.Errorf("Cost(%s, %s, %s): %d, %d", c.text, c.costs, c.fences, n, err)
		}
	}
}

func TestCheapest(t *testing.T) { // P9.5
	for _, c := range []struct {
		text, costs, fences string
		least               int
	}{
		{"", "", "", 0}, {"||", "||", "", 0}, {alone, "11", "", 0}, {straight, "1|1", "", 0}, {buffering, "1|1", "00 10", 2}, {buffering, "9|4", "00 10", 13}, {chain, "|2|3", "10 20", 5}, {ring, "1|2|3", "00 10 20", 6},
		{long, "32|5", "01 10", 7}, {long, "23|5", "00 10", 7}, {long, "22|5", "00 10", 7}, // of two that cost the same the first one
		{broad, "11|11", "00 01 10 11", 4},
		{full, "191|191", "00 02 10 12", 4}, {full, "919|929", "00 02 10 12", 36},
		// One pair is held by each of three fences.
		{"w0 r2 r2 r1|w1 r0", "333|1", "00 10", 4}, {"w0 r2 r2 r1|w1 r0", "433|1", "01 10", 4}, {"w0 r2 r2 r1|w1 r0", "543|1", "02 10", 4},
		// Two pairs that share the fence in the middle, or take one each.
		{shared, "919|1|1", "01 10 20", 3}, {shared, "131|1|1", "00 02 10 20", 4}, {shared, "121|1|1", "00 02 10 20", 4}, {shared, "222|1|1", "01 10 20", 4}, {shared, "234|1|1", "01 10 20", 5},
		{"w0 w1 w0 w1|w1 w0", "191|1", "00 02 10", 3},
	} {
		x := accesses(c.text)
		if l, err := delay.Cheapest(x, costs(c.costs)); !slices.Equal(l, fences(c.fences)) || err != api.OK {
			t.Errorf("Cheapest(%s, %s): %v, %d", c.text, c.costs, l, err)
		}
		if n, err := delay.Least(x, costs(c.costs)); n != c.least || err != api.OK {
			t.Errorf("Least(%s, %s): %d, %d", c.text, c.costs, n, err)
		}
		prices, err := delay.Prices(x, costs(c.costs))
		needed, _ := delay.Needed(x)
		if is, e := delay.Prove(x, costs(c.costs), prices, c.least); !is || e != api.OK || err != api.OK || len(prices) != len(needed) {
			t.Errorf("Prices(%s, %s): %v, %d, Prove: %v, %d", c.text, c.costs, prices, err, is, e)
		}
	}
}

func TestProve(t *testing.T) { // P9.5
	for _, c := range []struct {
		text, costs string
		prices      []int
		cost        int
		want        bool
	}{
		{buffering, "2|5", []int{2, 5}, 7, true}, {buffering, "2|5", []int{2, 5}, 6, true}, {buffering, "2|5", []int{2, 5}, 0, true}, {buffering, "2|5", []int{2, 5}, 8, false}, {buffering, "2|5", []int{2, 5}, 1000, false},
		{buffering, "2|5", []int{3, 4}, 7, false}, {buffering, "2|5", []int{1, 6}, 7, false}, {buffering, "2|5", []int{0, 0}, 0, true}, {buffering, "2|5", []int{0, 0}, 1, false}, {buffering, "2|5", []int{0, 5}, 5, true}, {buffering, "9|9", []int{100, 100}, 0, false}, {buffering, "9|9", []int{9, 10}, 0, false},
		{straight, "1|1", nil, 0, true}, {straight, "1|1", nil, 1, false}, {"", "", nil, 0, true}, {"", "", nil, 1000, false},
		// The needed pairs are 002, 013, 101 and 201: the second fence holds the first two.
		{shared, "234|1|1", []int{1, 2, 1, 1}, 5, true}, {shared, "234|1|1", []int{2, 1, 1, 1}, 5, true}, {shared, "234|1|1", []int{2, 2, 1, 1}, 5, false}, {shared, "244|1|1", []int{2, 2, 1, 1}, 6, true}, {shared, "244|1|1", []int{3, 1, 1, 1}, 6, false}, {shared, "943|1|1", []int{0, 4, 1, 1}, 6, false},
		// A price is for a needed pair; those that are not needed have none.
		{long, "14|1", []int{1, 1}, 2, true}, {long, "41|1", []int{1, 1}, 2, true}, {long, "41|1", []int{2, 1}, 2, false},
	} {
		if is, err := delay.Prove(accesses(c.text), costs(c.costs), c.prices, c.cost); is != c.want || err != api.OK {
			t.Errorf("Prove(%s, %s, %v, %d): %v, %d", c.text, c.costs, c.prices, c.cost, is, err)
		}
	}
}

// program returns one of a text: threads with | between them, each act - (a fence) or a cell, with what is stored into it.
func program(text string) [][]api.Act {
	var p [][]api.Act
	for thread := range strings.SplitSeq(text, "|") {
		var acts []api.Act
		for _, word := range strings.Fields(thread) {
			switch {
			case word == "-":
				acts = append(acts, api.Act{Do: 3})
			case len(word) == 1:
				acts = append(acts, api.Act{Do: 1, Var: int(word[0] - '0')})
			default:
				acts = append(acts, api.Act{Do: 2, Var: int(word[0] - '0'), Value: int(word[2] - '0')})
			}
		}
		p = append(p, acts)
	}
	return p
}

func TestProgram(t *testing.T) { // P9.6
	for _, c := range []struct{ text, fences, want string }{
		{"", "", ""}, {"||", "", "||"}, {"r2", "", "2"}, {alone, "", "0=1 1=2 2=3"}, {alone, "00 01", "0=1 - 1=2 - 2=3"}, {buffering, "", "0=1 1|1=2 0"}, {buffering, "10", "0=1 1|1=2 - 0"}, {buffering, "00 10", "0=1 - 1|1=2 - 0"},
		{chain, "10 20", "0=1|0 - 1=2|1 - 0"}, {long, "01", "0=1 2 - 1|1=2 0"}, {full, "00 11 12", "0=1 - 1=2 2=3 0=1|0=2 1=3 - 2=1 - 0=2"}, {shared, "", "0=1 2=2 1 0=3|1=1 0|0 2=2"}, {"|w1|r1 w1", "20", "|1=1|1 - 1=2"},
		{"w0 w0 w0 w0|r0 r0 r0 r0", "00 01 02 10 11 12", "0=1 - 0=2 - 0=3 - 0=1|0 - 0 - 0 - 0"}, {"w0 w1 w2|w0 w1 w2|w0 w1", "", "0=1 1=2 2=3|0=1 1=2 2=3|0=1 1=2"},
	} {
		if p, err := delay.Program(accesses(c.text), fences(c.fences)); !same(p, program(c.want)) || err != api.OK {
			t.Errorf("Program(%s, %s): %v, %d", c.text, c.fences, p, err)
		}
	}
	for _, text := range []string{"r0 r0 r0|r0 r0 r0|r0 r0 r0", "w0 w0 w0 w0|w0 w0 w0 w0|w0", "w0|r1 r1 r1 r1|w2 w2 w2 w2", "w0 w1 w2 w0|w0 w1 w2 w0|w0 w1 w2 w0"} {
		if p, err := delay.Program(accesses(text), nil); len(p) > 0 || err != api.ErrArg {
			t.Errorf("Program(%s): %v, %d", text, p, err)
		}
	}
}

func TestTurnedAndRenamed(t *testing.T) { // P9.7
	for _, c := range []struct{ text, want string }{
		{"", ""}, {"||", "||"}, {"w0", "w0"}, {alone, "w2 w1 w0"}, {buffering, "r1 w0|r0 w1"}, {long, "r1 r2 w0|r0 w1"}, {full, "w0 w2 w1 w0|w0 w2 w1 w0"}, {shared, "w0 r1 w2 w0|r0 w1|w2 r0"},
	} {
		if x, err := delay.Turned(accesses(c.text)); !same(x, accesses(c.want)) || err != api.OK {
			t.Errorf("Turned(%s): %v, %d", c.text, x, err)
		}
	}
	for _, c := range []struct{ text, threads, want string }{
		{"", "0", ""}, {alone, "0", alone}, {long, "01", long}, {long, "10", "w1 r0|w0 r2 r1"}, {chain, "012", chain}, {chain, "021", "w0|r1 r0|r0 w1"}, {chain, "102", "r0 w1|w0|r1 r0"}, {chain, "120", "r0 w1|r1 r0|w0"}, {chain, "201", "r1 r0|w0|r0 w1"}, {chain, "210", "r1 r0|r0 w1|w0"},
	} {
		if x, err := delay.Renamed(accesses(c.text), numbers(c.threads)); !same(x, accesses(c.want)) || err != api.OK {
			t.Errorf("Renamed(%s, %s): %v, %d", c.text, c.threads, x, err)
		}
	}
}

// TestExamples checks those of the chapter, and of DOC.md (9).
func TestExamples(t *testing.T) {
	two := accesses(buffering)
	needed, _ := delay.Needed(two)
	circles, _ := delay.Circles(two)
	cheapest, _ := delay.Cheapest(two, costs("1|1"))
	least, _ := delay.Least(two, costs("1|1"))
	if !slices.Equal(needed, stations("001 101")) || circles != 2 || !slices.Equal(cheapest, fences("00 10")) || least != 2 {
		t.Errorf("two stores and two loads: %v, %d, %v, %d", needed, circles, cheapest, least)
	}
	if l, err := delay.Needed(accesses(apart)); len(l) > 0 || err != api.OK {
		t.Errorf("two writes and a read: %v, %d", l, err)
	}
}

// nowhere returns numbers that are no threads, accesses or fences.
func nowhere() []int { return []int{-1 << 63, -1 << 32, -1, 4, 1 << 32, 1 << 62, 1<<63 - 1} }
