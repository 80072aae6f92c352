package delay_test

import (
	"slices"
	"testing"

	"lineal/api"
	"lineal/delay"
)

// answer is what a call returns: whether everything beside the error is zero, and the error.
type answer struct {
	zero bool
	err  api.Errno
}

func isTrue(is bool, err api.Errno) answer         { return answer{!is, err} }
func number(n int, err api.Errno) answer           { return answer{n == 0, err} }
func listed[T any](list []T, err api.Errno) answer { return answer{len(list) == 0, err} }

// ofAll returns the answers of the functions that have no other argument, or to which any list is one.
func ofAll(x [][]api.Access, circle [][3]int) map[string]answer {
	return map[string]answer{
		"Conflicts": number(delay.Conflicts(x)),
		"Pairs":     listed(delay.Pairs(x)),
		"IsCircle":  isTrue(delay.IsCircle(x, circle)),
		"Circles":   number(delay.Circles(x)),
		"Needed":    listed(delay.Needed(x)),
		"Turned":    listed(delay.Turned(x)),
	}
}

// ofNumber returns the answers of the functions that take an access or a pair.
func ofNumber(x [][]api.Access, n int) map[string]answer {
	return map[string]answer{
		"Conflict of t": isTrue(delay.Conflict(x, n, 0, 1, 0)),
		"Conflict of a": isTrue(delay.Conflict(x, 0, n, 1, 0)),
		"Conflict of u": isTrue(delay.Conflict(x, 0, 0, n, 0)),
		"Conflict of b": isTrue(delay.Conflict(x, 0, 0, 1, n)),
		"Conflict":      isTrue(delay.Conflict(x, n, n, n, n)),
		"Circle of t":   listed(delay.Circle(x, [3]int{n, 0, 1})),
		"Circle of a":   listed(delay.Circle(x, [3]int{0, n, 1})),
		"Circle of b":   listed(delay.Circle(x, [3]int{0, 0, n})),
		"Circle":        listed(delay.Circle(x, [3]int{n, n, n})),
	}
}

// ofFences returns the answers of the functions that take fences.
func ofFences(x [][]api.Access, list [][2]int, costs [][]int) map[string]answer {
	return map[string]answer{
		"Held":    listed(delay.Held(x, list)),
		"Enough":  isTrue(delay.Enough(x, list)),
		"Cost":    number(delay.Cost(x, costs, list)),
		"Program": listed(delay.Program(x, list)),
	}
}

// ofCosts returns the answers of the functions that take costs, but for fences, or with some.
func ofCosts(x [][]api.Access, costs [][]int, list [][2]int, prices []int) map[string]answer {
	return map[string]answer{
		"Cost":     number(delay.Cost(x, costs, list)),
		"Cheapest": listed(delay.Cheapest(x, costs)),
		"Least":    number(delay.Least(x, costs)),
		"Prices":   listed(delay.Prices(x, costs)),
		"Prove":    isTrue(delay.Prove(x, costs, prices, 0)),
	}
}

// check checks that all answers are errors.
func check(t *testing.T, kind string, answers map[string]answer, err api.Errno) {
	t.Helper()
	for name, a := range answers {
		if !a.zero || a.err != err {
			t.Errorf("%s of %s: %v, not the error %d", name, kind, a, err)
		}
	}
}

func TestErrAccess(t *testing.T) { // P9.1
	for kind, x := range invalid() {
		for _, n := range append(nowhere(), 0, 1) {
			check(t, kind, ofAll(x, [][3]int{{0, 0, n}, {1, n, 1}}), api.ErrAccess)
			check(t, kind, ofAll(x, nil), api.ErrAccess)
			check(t, kind, ofNumber(x, n), api.ErrAccess)
			for _, list := range [][][2]int{nil, {{0, 0}}, {{n, n}}, {{0, n}, {0, n}}} {
				for _, costs := range [][][]int{nil, {{n}, {n}}, make([][]int, len(x)), make([][]int, 1000)} {
					check(t, kind, ofFences(x, list, costs), api.ErrAccess)
					check(t, kind, ofCosts(x, costs, list, []int{n}), api.ErrAccess)
				}
			}
			for _, threads := range [][]int{nil, {0}, {0, 1}, {n}, {0, 1, 2, 3}, make([]int, 1000)} {
				check(t, kind, map[string]answer{"Renamed": listed(delay.Renamed(x, threads))}, api.ErrAccess)
			}
			prove := isTrue(delay.Prove(x, nil, nil, n))
			check(t, kind, map[string]answer{"Prove": prove}, api.ErrAccess)
		}
	}
}

func TestErrArgOfAccessesAndPairs(t *testing.T) { // P9.1, P9.2, P9.3
	for _, text := range []string{buffering, message, "w0 w1 w2 w0|w0 w1 w2 w0|w0 w1 w2 w0"} {
		for _, n := range nowhere() {
			check(t, text, ofNumber(accesses(text), n), api.ErrArg)
		}
	}
	x := accesses("w0 r1 r0|w1||")[:3]
	for _, at := range []string{"0310", "0011", "0020", "2000", "2020", "0030", "3000", "1101", "1111"} {
		n := numbers(at)
		if is, err := delay.Conflict(x, n[0], n[1], n[2], n[3]); is || err != api.ErrArg {
			t.Errorf("Conflict(%s): %v, %d", at, is, err)
		}
	}
	// No pair: an access, the other way round, one cell, an access or a thread that is none. What is a pair, but not needed, is none of these.
	for _, s := range stations("000 110 010 002 003 101 201 301") {
		if l, err := delay.Circle(x, s); len(l) > 0 || err != api.ErrArg {
			t.Errorf("Circle(%v): %v, %d", s, l, err)
		}
	}
	for _, s := range stations("001 012") {
		if l, err := delay.Circle(x, s); len(l) > 0 || err != api.ErrNone {
			t.Errorf("Circle(%v): %v, %d", s, l, err)
		}
	}
}

func TestErrArgOfFences(t *testing.T) { // P9.1, P9.4, P9.6
	x, cost := accesses("w0 r1 w2|w1 r0|r2|"), costs("12|3||")
	x, cost = x[:3], cost[:3]
	for _, text := range []string{"00 00", "10 00", "01 00", "10 10", "00 10 01", "00 01 01 10", "02", "11", "20", "30", "00 20", "00 01 02 10", "00 01 10 11", "40 41"} {
		check(t, text, ofFences(x, fences(text), cost), api.ErrArg)
	}
	for _, n := range nowhere() {
		for _, list := range [][][2]int{{{0, n}}, {{n, 0}}, {{n, n}}, {{0, 0}, {0, n}}, {{0, 0}, {n, 0}}, {{0, n}, {1, 0}}} {
			check(t, "a number", ofFences(x, list, cost), api.ErrArg)
		}
	}
	check(t, "many", ofFences(x, make([][2]int, 1000), cost), api.ErrArg)
	for _, text := range []string{"", "00", "01", "10", "00 01", "00 10", "01 10", "00 01 10"} {
		for name, a := range ofFences(x, fences(text), cost) {
			if a.err != api.OK {
				t.Errorf("%s(%s): %v", name, text, a)
			}
		}
	}
}

func TestErrArgOfCosts(t *testing.T) { // P9.1, P9.4, P9.5
	x := accesses("w0 r1 w2|w1 r0|")
	prices := []int{1, 1}
	bad := [][][]int{
		nil, {}, costs("11|1"), costs("11|1||"), costs("1|1|"), costs("111|1|"), costs("11||"), costs("11|11|"), costs("11|1|1"), costs("|11|1"), costs("1|11|"),
		costs("01|1|"), costs("10|1|"), costs("11|0|"), make([][]int, 3), make([][]int, 1000),
	}
	for _, n := range append(nowhere(), 0, 10) {
		if n == 4 {
			continue
		}
		bad = append(bad, [][]int{{n, 1}, {1}, nil}, [][]int{{1, n}, {1}, nil}, [][]int{{1, 1}, {n}, nil})
	}
	for _, costs := range bad {
		for _, list := range [][][2]int{nil, {{0, 1}, {1, 0}}, {{1, 0}, {0, 1}}} {
			check(t, "costs", ofCosts(x, costs, list, prices), api.ErrArg)
		}
	}
	for _, text := range []string{"11|1|", "99|9|"} {
		for name, a := range ofCosts(x, costs(text), fences("00"), prices) {
			if a.err != api.OK || a.zero {
				t.Errorf("%s(%s): %v", name, text, a)
			}
		}
	}
	// Where no thread has a fence none costs anything.
	for _, costs := range [][][]int{costs("|1"), costs("1|"), costs("|"), nil} {
		want := api.ErrArg
		if len(costs) == 2 && len(costs[0])+len(costs[1]) == 0 {
			want = api.OK
		}
		if n, err := delay.Least(accesses("w0|"), costs); n != 0 || err != want {
			t.Errorf("Least(%v): %d, %d, not %d", costs, n, err, want)
		}
	}
}

func TestErrArgOfPrices(t *testing.T) { // P9.1, P9.5
	x := accesses(long)
	for _, prices := range [][]int{nil, {}, {1}, {1, 1, 1}, {1, 1, 1, 1}, {-1, 1}, {1, -1}, {101, 1}, {1, 101}, {-1 << 63, 1}, {1, 1<<63 - 1}, {1 << 62, 1 << 62}, make([]int, 1000)} {
		for _, cost := range []int{0, 1, 1000, -1} {
			if is, err := delay.Prove(x, costs("11|1"), prices, cost); is || err != api.ErrArg {
				t.Errorf("Prove(%v, %d): %v, %d", prices, cost, is, err)
			}
		}
	}
	for _, cost := range []int{-1, 1001, -1 << 63, 1<<63 - 1, -1 << 32, 1 << 32} {
		if is, err := delay.Prove(x, costs("11|1"), []int{1, 1}, cost); is || err != api.ErrArg {
			t.Errorf("Prove(%d): %v, %d", cost, is, err)
		}
		if is, err := delay.Prove(accesses(""), costs(""), nil, cost); is || err != api.ErrArg {
			t.Errorf("Prove(%d) of nothing: %v, %d", cost, is, err)
		}
	}
	for _, prices := range [][]int{{0, 0}, {100, 100}, {0, 100}} {
		for _, cost := range []int{0, 1000} {
			if is, err := delay.Prove(x, costs("99|9"), prices, cost); is != (prices[1] == 0 && cost == 0) || err != api.OK {
				t.Errorf("Prove(%v, %d): %v, %d", prices, cost, is, err)
			}
		}
	}
	if is, err := delay.Prove(accesses(straight), costs("1|1"), []int{0}, 0); is || err != api.ErrArg {
		t.Errorf("Prove with a price for no needed pair: %v, %d", is, err)
	}
}

func TestErrArgOfRenamed(t *testing.T) { // P9.1, P9.7
	for _, c := range []struct {
		text string
		bad  [][]int
	}{
		{"w0", [][]int{nil, {1}, {-1}, {0, 0}, {0, 1}}},
		{buffering, [][]int{nil, {0}, {0, 0}, {1, 1}, {0, 2}, {-1, 0}, {0, 1, 2}, {0, 1, 1}, {1, 0, 0}, {1 << 62, 0}}},
		{chain, [][]int{nil, {0, 1}, {0, 1, 1}, {0, 1, 3}, {-1, 0, 1}, {0, 1, 2, 0}, {2, 2, 2}, {-1 << 63, 1, 2}, make([]int, 1000)}},
	} {
		for _, threads := range c.bad {
			if x, err := delay.Renamed(accesses(c.text), threads); len(x) > 0 || err != api.ErrArg {
				t.Errorf("Renamed(%s, %v): %v, %d", c.text, threads, x, err)
			}
		}
	}
}

// TestNothing checks that empty lists are as nil ones (R4).
func TestNothing(t *testing.T) {
	nothing := make([]api.Access, 4)[:0]
	for _, x := range [][][]api.Access{{nil}, {{}}, {nothing}, {nothing, nil, {}}} {
		if !delay.Valid(x) {
			t.Errorf("%v is not valid", x)
		}
		for _, circle := range [][][3]int{nil, {}, make([][3]int, 2)[:0]} {
			for name, a := range ofAll(x, circle) {
				if a.err != api.OK || a.zero != (name != "Turned") {
					t.Errorf("%s of nothing: %v", name, a)
				}
			}
		}
		for _, list := range [][][2]int{nil, {}, make([][2]int, 2)[:0]} {
			for _, some := range [][]int{nil, {}, make([]int, 2)[:0]} {
				costs := slices.Repeat([][]int{some}, len(x))
				for name, a := range ofFences(x, list, costs) {
					if a.err != api.OK || a.zero != (name != "Enough" && name != "Program") {
						t.Errorf("%s of nothing: %v", name, a)
					}
				}
				for name, a := range ofCosts(x, costs, list, some) {
					if a.err != api.OK || a.zero != (name != "Prove") {
						t.Errorf("%s of nothing: %v", name, a)
					}
				}
			}
		}
	}
}

// spoil writes over lists, up to their capacity.
func spoil[T any](with T, lists ...[]T) {
	for _, l := range lists {
		l = l[:cap(l)]
		for i := range l {
			l[i] = with
		}
	}
}

// own checks that the lists of a result share no memory: each is what it was when those before it are written over.
func own[T comparable](t *testing.T, name string, with T, lists, want [][]T) {
	t.Helper()
	if len(lists) != len(want) {
		t.Fatalf("%s: %v", name, lists)
	}
	for i, l := range lists {
		if !slices.Equal(l, want[i]) {
			t.Fatalf("%s: %v, not %v", name, l, want[i])
		}
		spoil(with, l)
	}
}

// TestArgumentsStay checks that arguments are neither changed nor kept, that results are new memory, and that lists are read up to their length alone (R4).
func TestArgumentsStay(t *testing.T) {
	given, list, cost := accesses("w0 r2 r1 w7|w1 r0 w7|r1 w7"), fences("01 10 77"), costs("228|58|8")
	x := [][]api.Access{given[0][:3], given[1][:2], given[2][:1]}
	price := [][]int{cost[0][:2], cost[1][:1], cost[2][:0]}
	circle, threads, prices := stations("002 101 777"), numbers("2017"), numbers("257")
	bad := api.Access{Var: 9}
	for range 2 {
		circleOf, _ := delay.Circle(x, [3]int{0, 0, 2})
		pairs, _ := delay.Pairs(x)
		needed, _ := delay.Needed(x)
		held, _ := delay.Held(x, list[:2])
		own(t, "Pairs, Needed, Held, Circle", [3]int{9, 9, 9}, [][][3]int{pairs, needed, held, circleOf}, [][][3]int{stations("001 002 012 101"), stations("002 101"), stations("002 012 101"), slices.Clone(circleOf)})
		cheapest, _ := delay.Cheapest(x, price)
		own(t, "Cheapest", [2]int{9, 9}, [][][2]int{cheapest}, [][][2]int{fences("00 10")})
		first, _ := delay.Prices(x, price)
		own(t, "Prices", 9, [][]int{first}, [][]int{numbers("25")})
		p, _ := delay.Program(x, list[:2])
		own(t, "Program", api.Act{Do: 9}, p, program("0=1 2 - 1|1=2 - 0|1"))
		turned, _ := delay.Turned(x)
		own(t, "Turned", bad, turned, accesses("r1 r2 w0|r0 w1|r1"))
		renamed, _ := delay.Renamed(x, threads[:3])
		own(t, "Renamed", bad, renamed, accesses("r1|w0 r2 r1|w1 r0"))
		is, _ := delay.IsCircle(x, circle[:2])
		enough, _ := delay.Enough(x, list[:2])
		proves, _ := delay.Prove(x, price, prices[:2], 7)
		sum, _ := delay.Cost(x, price, list[:2])
		if !is || !enough || !proves || sum != 7 {
			t.Fatalf("IsCircle: %v, Enough: %v, Prove: %v, Cost: %d", is, enough, proves, sum)
		}
		if !same(given, accesses("w0 r2 r1 w7|w1 r0 w7|r1 w7")) || !slices.Equal(list, fences("01 10 77")) || !same(cost, costs("228|58|8")) {
			t.Fatalf("an argument is changed: %v, %v, %v", given, list, cost)
		}
		if !slices.Equal(circle, stations("002 101 777")) || !slices.Equal(threads, numbers("2017")) || !slices.Equal(prices, numbers("257")) {
			t.Fatalf("an argument is changed: %v, %v, %v", circle, threads, prices)
		}
	}
}

// TestEqualInputs checks that equal inputs give equal results, also where the document does not state which ones.
func TestEqualInputs(t *testing.T) {
	d := newDice(12)
	for _, x := range d.large(100) {
		costs := d.costs(x, 9)
		needed, _ := delay.Needed(x)
		prices, _ := delay.Prices(x, costs)
		for range 3 {
			if again, err := delay.Prices(x, costs); !slices.Equal(prices, again) || err != api.OK {
				t.Fatalf("%v: Prices: %v, then %v, %d", x, prices, again, err)
			}
			for _, pair := range needed {
				circle, _ := delay.Circle(x, pair)
				if again, err := delay.Circle(x, pair); !slices.Equal(circle, again) || err != api.OK {
					t.Fatalf("%v: Circle(%v): %v, then %v, %d", x, pair, circle, again, err)
				}
			}
		}
	}
}
