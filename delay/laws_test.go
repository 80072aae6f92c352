package delay_test

import (
	"math/rand/v2"
	"slices"
	"testing"

	"lineal/api"
	"lineal/delay"
	"lineal/memory"
)

// small returns all accesses of one or two threads with at most two accesses each.
func small() [][][]api.Access {
	threads := [][]api.Access{nil}
	for i := 0; i < len(threads) && len(threads[i]) < 2; i++ {
		for cell := range 3 {
			for _, write := range []bool{false, true} {
				threads = append(threads, append(slices.Clone(threads[i]), api.Access{Var: cell, Write: write}))
			}
		}
	}
	var list [][][]api.Access
	for _, one := range threads {
		list = append(list, [][]api.Access{one})
		for _, other := range threads {
			list = append(list, [][]api.Access{one, other})
		}
	}
	return list
}

// dice makes accesses.
type dice struct{ *rand.Rand }

func newDice(seed uint64) dice { return dice{rand.New(rand.NewPCG(seed, 9))} }

// accesses makes those of some threads: in some of them most are writes, or most are reads.
func (d dice) accesses(threads, most int) [][]api.Access {
	var x [][]api.Access
	writes := 1 + d.IntN(4)
	for range threads {
		var list []api.Access
		for range d.IntN(most + 1) {
			list = append(list, api.Access{Var: d.IntN(3), Write: d.IntN(5) < writes})
		}
		x = append(x, list)
	}
	return x
}

// large makes accesses of two or three threads.
func (d dice) large(count int) [][][]api.Access {
	var list [][][]api.Access
	for range count {
		list = append(list, d.accesses(2+d.IntN(2), 4))
	}
	return list
}

// costs makes a cost for each fence.
func (d dice) costs(x [][]api.Access, most int) [][]int {
	list := make([][]int, len(x))
	for t, thread := range x {
		for g := 0; g+1 < len(thread); g++ {
			list[t] = append(list[t], 1+d.IntN(most))
		}
	}
	return list
}

// conflicts reports whether two accesses conflict, as the document says it.
func conflicts(x [][]api.Access, t, a, u, b int) bool {
	if t == u || x[t][a].Var != x[u][b].Var {
		return false
	}
	return x[t][a].Write || x[u][b].Write
}

// every returns all [3]int that may be a station of some accesses, and some that may not.
func every() [][3]int {
	var list [][3]int
	for t := range 4 {
		for a := range 5 {
			for b := range 5 {
				list = append(list, [3]int{t, a, b})
			}
		}
	}
	return list
}

// kind returns what a station is, as the document says it: 1 an access, 2 a pair, 0 nothing.
func kind(x [][]api.Access, s [3]int) int {
	switch {
	case s[0] >= len(x) || s[1] >= len(x[s[0]]) || s[2] >= len(x[s[0]]) || s[1] > s[2]:
		return 0
	case s[1] == s[2]:
		return 1
	case x[s[0]][s[1]].Var == x[s[0]][s[2]].Var:
		return 0
	default:
		return 2
	}
}

// isCircle reports whether a list is a circle, as the document says it.
func isCircle(x [][]api.Access, list [][3]int) bool {
	if len(list) != 2 && len(list) != 3 {
		return false
	}
	pairs := 0
	for i, s := range list {
		switch kind(x, s) {
		case 0:
			return false
		case 2:
			pairs++
		}
		for _, other := range list[:i] {
			if other[0] == s[0] {
				return false
			}
		}
	}
	for i, s := range list {
		next := list[(i+1)%len(list)]
		if !conflicts(x, s[0], s[2], next[0], next[1]) {
			return false
		}
	}
	return pairs > 0
}

// circles returns all circles, by a look at all lists of stations.
func circles(x [][]api.Access) [][][3]int {
	var stations [][3]int
	for _, s := range every() {
		if kind(x, s) > 0 {
			stations = append(stations, s)
		}
	}
	var list [][][3]int
	add := func(circle ...[3]int) {
		if isCircle(x, circle) {
			list = append(list, circle)
		}
	}
	for _, s := range stations {
		for _, u := range stations {
			add(s, u)
			for _, v := range stations {
				add(s, u, v)
			}
		}
	}
	return list
}

// onSome returns the pairs that some of the circles has, in ascending order.
func onSome(list [][][3]int) [][3]int {
	var pairs [][3]int
	for _, s := range every() {
		isOn := func(circle [][3]int) bool { return slices.Contains(circle, s) }
		if s[1] < s[2] && slices.ContainsFunc(list, isOn) {
			pairs = append(pairs, s)
		}
	}
	return pairs
}

func TestConflictsAndPairsBySearch(t *testing.T) { // P9.2
	for _, x := range slices.Concat(small(), newDice(1).large(300)) {
		count := 0
		for _, s := range every() {
			for _, u := range every() {
				if kind(x, s) != 1 || kind(x, u) != 1 {
					continue
				}
				want := conflicts(x, s[0], s[1], u[0], u[1])
				if want && s[0] < u[0] {
					count++
				}
				if is, err := delay.Conflict(x, s[0], s[1], u[0], u[1]); is != want || err != api.OK {
					t.Fatalf("%v: Conflict(%v, %v): %v, %d", x, s, u, is, err)
				}
			}
		}
		if n, err := delay.Conflicts(x); n != count || err != api.OK {
			t.Fatalf("%v: Conflicts: %d, %d, not %d", x, n, err, count)
		}
		pairs := slices.DeleteFunc(every(), func(s [3]int) bool { return kind(x, s) != 2 })
		if l, err := delay.Pairs(x); !slices.Equal(l, pairs) || err != api.OK {
			t.Fatalf("%v: Pairs: %v, %d, not %v", x, l, err, pairs)
		}
	}
}

func TestCirclesBySearch(t *testing.T) { // P9.3, P9.8
	for _, x := range slices.Concat(small(), newDice(2).large(300)) {
		all := circles(x)
		needed := onSome(all)
		if n, err := delay.Circles(x); n != len(all) || err != api.OK {
			t.Fatalf("%v: Circles: %d, %d, not %d", x, n, err, len(all))
		}
		if l, err := delay.Needed(x); !slices.Equal(l, needed) || err != api.OK {
			t.Fatalf("%v: Needed: %v, %d, not %v", x, l, err, needed)
		}
		for _, s := range every() {
			l, err := delay.Circle(x, s)
			want := api.OK
			if kind(x, s) != 2 {
				want = api.ErrArg
			} else if !slices.Contains(needed, s) {
				want = api.ErrNone
			}
			if err != want || (err == api.OK) != (isCircle(x, l) && slices.Contains(l, s)) || err != api.OK && len(l) > 0 {
				t.Fatalf("%v: Circle(%v): %v, %d, not %d", x, s, l, err, want)
			}
			if is, e := delay.IsCircle(x, l); is != (err == api.OK) || e != api.OK {
				t.Fatalf("%v: IsCircle(%v): %v, %d", x, l, is, e)
			}
		}
		for _, circle := range all {
			if is, err := delay.IsCircle(x, circle); !is || err != api.OK {
				t.Fatalf("%v: IsCircle(%v): %v, %d", x, circle, is, err)
			}
		}
	}
}

// TestIsCircleOfAllLists goes over all lists of two stations, or of what is none, and of three, if two of them are stations.
func TestIsCircleOfAllLists(t *testing.T) { // P9.3
	d := newDice(3)
	samples := d.large(8)
	for _, text := range []string{buffering, chain, ring, broad, one, shared, full, "w0 w1 w2 w0|w0 w1 w2 w0|w0 w1 w2 w0"} {
		samples = append(samples, accesses(text))
	}
	count := 0
	for _, x := range samples {
		check := func(list ...[3]int) {
			want := isCircle(x, list)
			if is, err := delay.IsCircle(x, list); is != want || err != api.OK {
				t.Fatalf("%v: IsCircle(%v): %v, %d", x, list, is, err)
			}
			if want {
				count++
			}
		}
		for _, s := range every() {
			check(s)
			for _, u := range every() {
				check(s, u)
				check(s, u, s)
				check(s, u, s, u)
				if kind(x, s) == 0 || kind(x, u) == 0 {
					continue
				}
				for _, v := range every() {
					check(s, u, v)
					check(v, s, u, s)
				}
			}
		}
	}
	if count < 100 {
		t.Errorf("circles: %d", count)
	}
}

// TestCirclesOfLess checks that each circle of accesses of which one is taken away was one before.
func TestCirclesOfLess(t *testing.T) { // P9.8
	for _, x := range newDice(4).large(100) {
		all := circles(x)
		for thread, list := range x {
			for i := range list {
				less := slices.Clone(x)
				less[thread] = slices.Concat(list[:i], list[i+1:])
				n, err := delay.Circles(less)
				if n > len(all) || err != api.OK {
					t.Fatalf("%v without (%d, %d): %d circles, %d", x, thread, i, n, err)
				}
				needed, _ := delay.Needed(less)
				for _, pair := range needed {
					circle, _ := delay.Circle(less, pair)
					for k, s := range circle {
						for at := 1; at < 3; at++ {
							if s[0] == thread && s[at] >= i {
								circle[k][at]++
							}
						}
					}
					if is, err := delay.IsCircle(x, circle); !is || err != api.OK {
						t.Fatalf("%v: IsCircle(%v): %v, %d", x, circle, is, err)
					}
				}
			}
		}
	}
}

func TestTurnedNeeds(t *testing.T) { // P9.7, P9.8
	for _, x := range slices.Concat(small(), newDice(5).large(1000)) {
		turned, err := delay.Turned(x)
		if err != api.OK || len(turned) != len(x) {
			t.Fatalf("%v: Turned: %v, %d", x, turned, err)
		}
		for thread, list := range x {
			list = slices.Clone(list)
			slices.Reverse(list)
			if !slices.Equal(list, turned[thread]) {
				t.Fatalf("%v: Turned: %v", x, turned)
			}
		}
		if again, err := delay.Turned(turned); !same(x, again) || err != api.OK {
			t.Fatalf("%v: turned twice: %v, %d", x, again, err)
		}
		needed, _ := delay.Needed(x)
		for i, pair := range needed {
			last := len(x[pair[0]]) - 1
			needed[i] = [3]int{pair[0], last - pair[2], last - pair[1]}
		}
		slices.SortFunc(needed, func(a, b [3]int) int { return slices.Compare(a[:], b[:]) })
		if l, err := delay.Needed(turned); !slices.Equal(l, needed) || err != api.OK {
			t.Fatalf("%v: Needed of Turned: %v, %d, not %v", x, l, err, needed)
		}
	}
}

// all returns all fences, in ascending order.
func all(x [][]api.Access) [][2]int {
	var list [][2]int
	for t, thread := range x {
		for g := 0; g+1 < len(thread); g++ {
			list = append(list, [2]int{t, g})
		}
	}
	return list
}

// subsets returns all lists of fences.
func subsets(x [][]api.Access) [][][2]int {
	var lists [][][2]int
	for bits := range 1 << len(all(x)) {
		var list [][2]int
		for i, f := range all(x) {
			if bits>>i&1 == 1 {
				list = append(list, f)
			}
		}
		lists = append(lists, list)
	}
	return lists
}

// lie reports whether a fence lies between the accesses of a pair.
func lie(f [2]int, pair [3]int) bool { return f[0] == pair[0] && f[1] >= pair[1] && f[1]+1 <= pair[2] }

// loose returns those of some pairs that no fence of a list holds.
func loose(pairs [][3]int, list [][2]int) [][3]int {
	return slices.DeleteFunc(slices.Clone(pairs), func(pair [3]int) bool {
		return slices.ContainsFunc(list, func(f [2]int) bool { return lie(f, pair) })
	})
}

// sum returns the cost of fences.
func sum(costs [][]int, list [][2]int) int {
	n := 0
	for _, f := range list {
		n += costs[f[0]][f[1]]
	}
	return n
}

// compare compares lists of fences number by number; one that ends comes before one that goes on.
func compare(a, b [][2]int) int {
	return slices.CompareFunc(a, b, func(f, g [2]int) int { return slices.Compare(f[:], g[:]) })
}

func TestFencesBySearch(t *testing.T) { // P9.4, P9.5, P9.9
	d := newDice(6)
	free := 0
	for _, x := range append(d.large(200), accesses(shared), accesses(full)) {
		costs := d.costs(x, 1+d.IntN(9))
		pairs, _ := delay.Pairs(x)
		needed, _ := delay.Needed(x)
		best := all(x)
		for _, list := range subsets(x) {
			held := slices.DeleteFunc(slices.Clone(pairs), func(pair [3]int) bool { return slices.Contains(loose(pairs, list), pair) })
			if l, err := delay.Held(x, list); !slices.Equal(l, held) || err != api.OK {
				t.Fatalf("%v: Held(%v): %v, %d, not %v", x, list, l, err, held)
			}
			enough := len(loose(needed, list)) == 0
			if is, err := delay.Enough(x, list); is != enough || err != api.OK {
				t.Fatalf("%v: Enough(%v): %v, %d", x, list, is, err)
			}
			cost := sum(costs, list)
			if n, err := delay.Cost(x, costs, list); n != cost || err != api.OK {
				t.Fatalf("%v: Cost(%v, %v): %d, %d, not %d", x, costs, list, n, err, cost)
			}
			if than := sum(costs, best); enough && (cost < than || cost == than && compare(list, best) < 0) {
				best = list
			}
		}
		if l, err := delay.Cheapest(x, costs); !slices.Equal(l, best) || err != api.OK {
			t.Fatalf("%v: Cheapest(%v): %v, %d, not %v", x, costs, l, err, best)
		}
		if n, err := delay.Least(x, costs); n != sum(costs, best) || err != api.OK {
			t.Fatalf("%v: Least(%v): %d, %d, not %d", x, costs, n, err, sum(costs, best))
		}
		if is, err := delay.Enough(x, nil); is != (len(needed) == 0) || err != api.OK {
			t.Fatalf("%v: Enough without fences: %v, %d", x, is, err)
		}
		if len(needed) == 0 {
			free++
		}
	}
	if free < 20 || free > 180 {
		t.Errorf("accesses without needed pairs: %d", free)
	}
}

// proves reports whether prices prove a cost, as the document says it.
func proves(x [][]api.Access, costs [][]int, needed [][3]int, prices []int, cost int) bool {
	for _, f := range all(x) {
		paid := 0
		for i, pair := range needed {
			if lie(f, pair) {
				paid += prices[i]
			}
		}
		if paid > costs[f[0]][f[1]] {
			return false
		}
	}
	for _, price := range prices {
		cost -= price
	}
	return cost <= 0
}

func TestPricesProve(t *testing.T) { // P9.5, P9.9
	d := newDice(7)
	count := map[bool]int{}
	for _, x := range append(d.large(3000), accesses(shared), accesses(full)) {
		costs := d.costs(x, 1+d.IntN(9))
		needed, _ := delay.Needed(x)
		least, _ := delay.Least(x, costs)
		prices, err := delay.Prices(x, costs)
		isNone := func(price int) bool { return price < 0 || price > 100 }
		if len(prices) != len(needed) || slices.ContainsFunc(prices, isNone) || !proves(x, costs, needed, prices, least) || err != api.OK {
			t.Fatalf("%v: Prices(%v): %v, %d", x, costs, prices, err)
		}
		for range 8 {
			for _, cost := range []int{0, least - 1, least, least + 1, 1000} {
				if cost < 0 {
					continue
				}
				want := proves(x, costs, needed, prices, cost)
				count[want]++
				if is, err := delay.Prove(x, costs, prices, cost); is != want || err != api.OK {
					t.Fatalf("%v: Prove(%v, %v, %d): %v, %d", x, costs, prices, cost, is, err)
				}
				if want && cost > least {
					t.Fatalf("%v: %v prove more than %d, for %v", x, prices, least, costs)
				}
			}
			for i := range prices {
				prices[i] = max(0, prices[i]+d.IntN(3)-1)
			}
		}
	}
	if count[true] < 10000 || count[false] < 10000 {
		t.Errorf("costs that are proved, or not: %v", count)
	}
}

// TestNoPricesProveMore goes over all prices that there may be, if there are few needed pairs.
func TestNoPricesProveMore(t *testing.T) { // P9.9
	d := newDice(8)
	count := 0
	for _, x := range append(d.large(1000), accesses(shared)) {
		costs := d.costs(x, 3)
		needed, _ := delay.Needed(x)
		if len(needed) == 0 || len(needed) > 5 {
			continue
		}
		least, _ := delay.Least(x, costs)
		prices := make([]int, len(needed))
		for at := 0; at < len(prices); {
			if is, err := delay.Prove(x, costs, prices, least+1); is || err != api.OK {
				t.Fatalf("%v: Prove(%v, %v, %d): %v, %d", x, costs, prices, least+1, is, err)
			}
			// The next ones: all those in front of the first one that can be raised are 0 again.
			for at = 0; at < len(prices) && prices[at] == 3; at++ {
				prices[at] = 0
			}
			if at < len(prices) {
				prices[at]++
			}
		}
		count++
	}
	if count < 50 {
		t.Errorf("accesses with few needed pairs: %d", count)
	}
}

func TestProgramIsAsTold(t *testing.T) { // P9.6
	d := newDice(9)
	for _, x := range append(d.large(1000), small()...) {
		var list [][2]int
		for _, f := range all(x) {
			if d.IntN(2) == 0 {
				list = append(list, f)
			}
		}
		count, written := 0, 0
		var want [][]api.Act
		for t, thread := range x {
			var acts []api.Act
			for i, a := range thread {
				count++
				if slices.Contains(list, [2]int{t, i - 1}) {
					acts = append(acts, api.Act{Do: 3})
				}
				if !a.Write {
					acts = append(acts, api.Act{Do: 1, Var: a.Var})
					continue
				}
				acts = append(acts, api.Act{Do: 2, Var: a.Var, Value: [3]int{1, 2, 3}[written%3]})
				written++
			}
			want = append(want, acts)
		}
		p, err := delay.Program(x, list)
		if count > 8 {
			if len(p) > 0 || err != api.ErrArg {
				t.Fatalf("%v: Program(%v): %v, %d", x, list, p, err)
			}
			continue
		}
		if !same(p, want) || err != api.OK || !memory.Valid(p) {
			t.Fatalf("%v: Program(%v): %v, %d, not %v", x, list, p, err, want)
		}
	}
}

// bare reports whether the program with fences has on loose memory just the outcomes that it has on strict memory.
func bare(t *testing.T, x [][]api.Access, list [][2]int) bool {
	t.Helper()
	p, err := delay.Program(x, list)
	if err != api.OK {
		t.Fatalf("%v: Program(%v): %d", x, list, err)
	}
	strict, _ := memory.Outcomes(p, 1)
	many, err := memory.Outcomes(p, 3)
	if err != api.OK {
		t.Fatalf("%v: Outcomes of %v: %d", x, p, err)
	}
	return same(strict, many)
}

// TestFencesMakeStrict checks the fences that are enough, and, so that this tells something, that others often are not.
func TestFencesMakeStrict(t *testing.T) { // P9.10
	d := newDice(10)
	list := small()
	for range 700 {
		x := d.accesses(2+d.IntN(2), 4)
		if len(slices.Concat(x...)) <= 8 {
			list = append(list, x)
		}
	}
	list = append(list, accesses(message), accesses(chain), accesses(ring), accesses(broad), accesses(shared), accesses(full))
	weak := 0
	for _, x := range list {
		lists := subsets(x)
		cheapest, _ := delay.Cheapest(x, d.costs(x, 9))
		for _, f := range [][][2]int{nil, cheapest, lists[d.IntN(len(lists))]} {
			enough, err := delay.Enough(x, f)
			is := bare(t, x, f)
			if enough && !is || err != api.OK {
				t.Fatalf("%v with %v: more on loose memory, %d", x, f, err)
			}
			if !is {
				weak++
			}
		}
	}
	if weak < 100 {
		t.Errorf("programs that show more on loose memory: %d", weak)
	}
}

func TestRenamedIsAlike(t *testing.T) { // P9.7, P9.11
	d := newDice(11)
	for _, x := range append(d.large(600), small()...) {
		threads := d.Perm(len(x))
		renamed, err := delay.Renamed(x, threads)
		if err != api.OK || len(renamed) != len(x) {
			t.Fatalf("%v: Renamed(%v): %v, %d", x, threads, renamed, err)
		}
		costs := d.costs(x, 9)
		moved := make([][]int, len(x))
		for i, thread := range threads {
			moved[i] = costs[thread]
			if !slices.Equal(renamed[i], x[thread]) {
				t.Fatalf("%v: Renamed(%v): %v", x, threads, renamed)
			}
		}
		n, _ := delay.Circles(x)
		if k, err := delay.Circles(renamed); k != n || err != api.OK {
			t.Fatalf("%v: Circles of Renamed(%v): %d, %d, not %d", x, threads, k, err, n)
		}
		least, _ := delay.Least(x, costs)
		if k, err := delay.Least(renamed, moved); k != least || err != api.OK {
			t.Fatalf("%v: Least of Renamed(%v): %d, %d, not %d", x, threads, k, err, least)
		}
	}
}
