package progress_test

import (
	"slices"
	"testing"

	"lineal/api"
	"lineal/progress"
)

// answer is what a call returns: whether everything beside the error is zero, and the error.
type answer struct {
	zero bool
	err  api.Errno
}

func isTrue(is bool, err api.Errno) answer    { return answer{!is, err} }
func number(n int, err api.Errno) answer      { return answer{n == 0, err} }
func listed(list []int, err api.Errno) answer { return answer{len(list) == 0, err} }
func made(g api.Graph, err api.Errno) answer  { return answer{isZero(g), err} }
func two(a, b []int, err api.Errno) answer    { return answer{len(a)+len(b) == 0, err} }

// ofClaim returns the answers of the functions that take a claim and a thread.
func ofClaim(g api.Graph, claim, thread int, list []int) map[string]answer {
	return map[string]answer{
		"Holds":   isTrue(progress.Holds(g, claim, thread)),
		"Ranks":   listed(progress.Ranks(g, claim, thread)),
		"Prove":   isTrue(progress.Prove(g, claim, thread, list)),
		"Lasso":   two(progress.Lasso(g, claim, thread)),
		"Refutes": isTrue(progress.Refutes(g, claim, thread, list, list)),
	}
}

// ofNumber returns the answers of the functions that take a place, a thread or a move.
func ofNumber(g api.Graph, n int) map[string]answer {
	return map[string]answer{
		"Way":          listed(progress.Way(g, n)),
		"Bound":        number(progress.Bound(g, n)),
		"Without":      made(progress.Without(g, n)),
		"Renamed from": made(progress.Renamed(g, n, 0)),
		"Renamed to":   made(progress.Renamed(g, 1, n)),
		"Renamed":      made(progress.Renamed(g, n, n)),
		"Only":         made(progress.Only(g, n)),
	}
}

// ofGraph returns the answers of the other functions.
func ofGraph(g api.Graph, list []int) map[string]answer {
	return map[string]answer{
		"IsPath":    isTrue(progress.IsPath(g, list)),
		"Reached":   listed(progress.Reached(g)),
		"Everybody": isTrue(progress.Everybody(g)),
		"Longest":   number(progress.Longest(g)),
		"Ends":      listed(progress.Ends(g)),
	}
}

// check checks that all answers are errors.
func check(t *testing.T, kind string, answers map[string]answer, err api.Errno) {
	t.Helper()
	for name, a := range answers {
		if !a.zero || a.err != err {
			t.Errorf("%s of %s: %v, not the error %d", name, kind, a, err)
		}
	}
}

// nowhere returns numbers that are no places, moves, threads or claims.
func nowhere() []int { return []int{-1 << 63, -1 << 32, -1, 20, 1 << 32, 1 << 62, 1<<63 - 1} }

func TestErrGraph(t *testing.T) { // P7.1
	for kind, g := range invalid() {
		for _, n := range append(nowhere(), 0, 1, 2) {
			for _, list := range [][]int{nil, {0}, {n}, make([]int, 1001)} {
				check(t, kind, ofClaim(g, n, 0, list), api.ErrGraph)
				check(t, kind, ofClaim(g, 1, n, list), api.ErrGraph)
				check(t, kind, ofGraph(g, list), api.ErrGraph)
			}
			check(t, kind, ofNumber(g, n), api.ErrGraph)
		}
	}
}

// TestErrArg checks that what is no claim or no thread is found before what there is none of: of the graphs one holds all claims, the other one none of them.
func TestErrArg(t *testing.T) { // P7.1
	for _, text := range []string{"1", "1 0a0 0b0 0c0"} {
		g := graph(text)
		for _, n := range append(nowhere(), 3) {
			for _, list := range [][]int{nil, {0}, {n}, make([]int, 1001)} {
				check(t, text, ofClaim(g, n, 0, list), api.ErrArg)
				check(t, text, ofClaim(g, n, n, list), api.ErrArg)
				for claim := range 3 {
					check(t, text, ofClaim(g, claim, n, list), api.ErrArg)
				}
			}
			check(t, text, ofNumber(g, n), api.ErrArg)
		}
		for thread := 1; thread < 3; thread++ { // the claim 0 is for no thread
			check(t, text, ofClaim(g, 0, thread, []int{0}), api.ErrArg)
		}
	}
	if l, err := progress.Way(graph("3 0a1"), 3); len(l) > 0 || err != api.ErrArg {
		t.Errorf("Way: %v, %d", l, err)
	}
}

func TestErrNone(t *testing.T) { // P7.1
	g := graph("2 0a0 0b0 0c0")
	for _, c := range claims() {
		all := ofClaim(g, c.claim, c.thread, nil)
		for name, want := range map[string]api.Errno{"Holds": api.OK, "Ranks": api.ErrNone, "Prove": api.ErrArg, "Lasso": api.OK, "Refutes": api.OK} {
			if a := all[name]; a.err != want || a.zero != (name != "Lasso") {
				t.Errorf("%s(%v): %v, not the error %d", name, c, a, want)
			}
		}
		check(t, "no moves", map[string]answer{"Lasso": two(progress.Lasso(graph("2"), c.claim, c.thread))}, api.ErrNone)
	}
	check(t, "three that go round", map[string]answer{
		"Way":        listed(progress.Way(g, 1)),
		"Longest":    number(progress.Longest(g)),
		"Bound of a": number(progress.Bound(g, 0)),
		"Bound of b": number(progress.Bound(g, 1)),
		"Bound of c": number(progress.Bound(g, 2)),
	}, api.ErrNone)
	check(t, "three that go round", map[string]answer{"Everybody": isTrue(progress.Everybody(g))}, api.OK)
}

// TestNothing checks that empty lists are as nil ones (R4).
func TestNothing(t *testing.T) {
	for _, moves := range [][]api.Move{nil, {}, full().Moves[:0]} {
		for _, list := range [][]int{nil, {}, make([]int, 5)[:0]} {
			g := api.Graph{Places: 1, Moves: moves}
			for name, a := range ofGraph(g, list) {
				if a.err != api.OK || a.zero != (name == "Longest") {
					t.Errorf("%s of no moves: %v", name, a)
				}
			}
			for _, c := range claims() {
				for name, a := range ofClaim(g, c.claim, c.thread, list) {
					want := map[string]api.Errno{"Prove": api.ErrArg, "Lasso": api.ErrNone}[name]
					if a.err != want || a.zero != (name != "Holds" && name != "Ranks") {
						t.Errorf("%s of no moves: %v", name, a)
					}
				}
				loop := graph(spin)
				if is, err := progress.Refutes(loop, c.claim, c.thread, list, list); is || err != api.OK {
					t.Errorf("Refutes with nothing: %v, %d", is, err)
				}
				if is, err := progress.Refutes(loop, c.claim, c.thread, list, []int{0}); is != (c.thread == 0) || err != api.OK {
					t.Errorf("Refutes with the empty path: %v, %d", is, err)
				}
			}
		}
	}
}

// spoil writes over lists, up to their capacity.
func spoil(lists ...[]int) {
	for _, l := range lists {
		l = l[:cap(l)]
		for i := range l {
			l[i] = 9
		}
	}
}

// TestArgumentsStay checks that arguments are neither changed nor kept, that results are new memory, and that lists are read up to their length alone (R4).
func TestArgumentsStay(t *testing.T) {
	text := "4 0a1 0b2 1A3 1b1 2a2"
	g := graph(text + " 3c0 3c0 9a9")
	g.Moves = g.Moves[:5]
	ranks, path, circle := numbers("21009")[:4], numbers("019")[:1], numbers("339")[:2]
	for range 2 {
		reached, _ := progress.Reached(g)
		way, _ := progress.Way(g, 3)
		ends, _ := progress.Ends(g)
		least, _ := progress.Ranks(g, 2, 2)
		first, _ := progress.Ranks(graph(line), 0, 0)
		ofPath, ofCircle, _ := progress.Lasso(g, 1, 1)
		got := [][]int{reached, way, ends, least, first, ofPath, ofCircle}
		for i, want := range []string{"0123", "02", "3", "0000", "210", "0", "3"} {
			if !slices.Equal(got[i], numbers(want)) {
				t.Fatalf("the list %d: %v, not %s", i, got[i], want)
			}
			spoil(got[i])
		}
		isPath, _ := progress.IsPath(g, path)
		proves, _ := progress.Prove(g, 2, 2, ranks)
		refutes, _ := progress.Refutes(g, 1, 1, path, circle)
		if !isPath || !proves || !refutes {
			t.Fatalf("IsPath: %v, Prove: %v, Refutes: %v", isPath, proves, refutes)
		}
		less, _ := progress.Without(g, 1)
		last, _ := progress.Without(g, 4)
		renamed, _ := progress.Renamed(g, 0, 2)
		equal, _ := progress.Renamed(g, 1, 1)
		only, _ := progress.Only(g, 0)
		graphs := []api.Graph{less, last, renamed, equal, only}
		for i, want := range []string{"4 0a1 1A3 1b1 2a2", "4 0a1 0b2 1A3 1b1", "4 0c1 0b2 1C3 1b1 2c2", text, "4 0a1 1A3 2a2"} {
			if !same(graphs[i], graph(want)) {
				t.Fatalf("the graph %d: %v, not %s", i, graphs[i], want)
			}
			moves := graphs[i].Moves[:cap(graphs[i].Moves)]
			for k := range moves {
				moves[k] = api.Move{From: 9}
			}
		}
		if !same(api.Graph{Places: 4, Moves: g.Moves[:8]}, graph(text+" 3c0 3c0 9a9")) {
			t.Fatalf("a graph is changed: %v", g)
		}
		if !slices.Equal(ranks[:5], numbers("21009")) || !slices.Equal(path[:3], numbers("019")) || !slices.Equal(circle[:3], numbers("339")) {
			t.Fatalf("a list is changed: %v, %v, %v", ranks, path, circle)
		}
	}
}

// TestEqualInputs checks that equal inputs give equal results.
func TestEqualInputs(t *testing.T) {
	for _, g := range newDice(11).graphs(300) {
		for _, c := range claims() {
			path, circle, err := progress.Lasso(g, c.claim, c.thread)
			for range 3 {
				again, round, e := progress.Lasso(with(g), c.claim, c.thread)
				if !slices.Equal(path, again) || !slices.Equal(circle, round) || e != err {
					t.Fatalf("%v: Lasso(%v): %v, %v, %d, then %v, %v, %d", g, c, path, circle, err, again, round, e)
				}
			}
		}
	}
}
