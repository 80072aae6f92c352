package refine_test

import (
	"slices"
	"testing"

	"lineal/api"
	"lineal/refine"
)

// answer is what a call returns: whether everything beside the error is zero, and the error.
type answer struct {
	zero bool
	err  api.Errno
}

func isTrue(is bool, err api.Errno) answer         { return answer{!is, err} }
func listed[T any](list []T, err api.Errno) answer { return answer{len(list) == 0, err} }
func made(s api.System, err api.Errno) answer      { return answer{isZero(s), err} }

// ofOne returns the answers of the functions that take one system, with a number, and a list, for each further argument.
func ofOne(s api.System, n int, list []int) map[string]answer {
	return map[string]answer{
		"Comes from": listed(refine.Comes(s, n, 0)),
		"Comes by":   listed(refine.Comes(s, 0, n)),
		"Comes":      listed(refine.Comes(s, n, n)),
		"Reached":    listed(refine.Reached(s)),
		"Stuck":      listed(refine.Stuck(s)),
		"IsTrace":    isTrue(refine.IsTrace(s, list)),
		"Traces":     listed(refine.Traces(s, n)),
		"Plain":      isTrue(refine.Plain(s)),
		"Seen":       made(refine.Seen(s)),
		"Hidden":     made(refine.Hidden(s, n)),
		"Without":    made(refine.Without(s, n)),
	}
}

// ofTwo returns the answers of the functions that take two systems.
func ofTwo(c, a api.System, relation [][2]int) map[string]answer {
	return map[string]answer{
		"Best":    listed(refine.Best(c, a)),
		"IsProof": isTrue(refine.IsProof(c, a, relation)),
		"Refines": isTrue(refine.Refines(c, a)),
		"Proof":   listed(refine.Proof(c, a)),
		"Shows":   listed(refine.Shows(c, a)),
		"Both":    made(refine.Both(c, a)),
	}
}

// check checks that all answers are errors.
func check(t *testing.T, kind string, answers map[string]answer, err api.Errno) {
	t.Helper()
	for name, a := range answers {
		if !a.zero || a.err != err {
			t.Errorf("%s of %s: %v, not the error %d", name, kind, a, err)
		}
	}
}

// nowhere returns numbers that are no states, labels, indices or lengths.
func nowhere() []int { return []int{-1 << 63, -1, 6, 25, 1 << 62, 1<<63 - 1} }

func TestErrSystem(t *testing.T) { // P5.1
	for kind, s := range invalid() {
		for _, n := range append(nowhere(), 0, 1) {
			for _, trace := range [][]int{nil, {1}, {n}, make([]int, 1001)} {
				check(t, kind, ofOne(s, n, trace), api.ErrSystem)
			}
		}
		for _, relation := range [][][2]int{nil, {{0, 0}}, {{-1, 9}}, make([][2]int, 1000)} {
			for _, other := range []api.System{{States: 1}, {States: 6}, full(), system(more), s} {
				check(t, kind, ofTwo(s, other, relation), api.ErrSystem)
				check(t, kind, ofTwo(other, s, relation), api.ErrSystem)
			}
		}
	}
}

func TestErrArg(t *testing.T) { // P5.1
	large := system("6 010 011 022 121 233 314 415") // of which too much is seen
	for _, n := range nowhere() {
		for name, a := range ofOne(large, n, []int{n}) {
			want := api.ErrArg
			switch name {
			case "Reached", "Stuck", "Plain":
				want = api.OK
			case "Seen":
				want = api.ErrLimit
			case "Without":
				if n == 6 {
					want = api.OK
				}
			}
			if a.err != want || want != api.OK && !a.zero {
				t.Errorf("%s of %d: %v, not the error %d", name, n, a, want)
			}
		}
	}
	for name, a := range ofTwo(system(more), system(loop), pairs("11 00")) {
		want := map[string]api.Errno{"IsProof": api.ErrArg, "Proof": api.ErrNone}[name]
		if a.err != want {
			t.Errorf("%s: %v, not the error %d", name, a, want)
		}
	}
}

func TestErrLimitAndErrNone(t *testing.T) { // P5.1
	for name, a := range ofTwo(full(), system(late), nil) {
		want := map[string]api.Errno{"Both": api.ErrLimit, "Proof": api.ErrNone}[name]
		if a.err != want || want != api.OK && !a.zero {
			t.Errorf("%s: %v, not the error %d", name, a, want)
		}
	}
	for name, a := range ofTwo(system(late), full(), nil) {
		want := map[string]api.Errno{"Both": api.ErrLimit, "Shows": api.ErrNone}[name]
		if a.err != want || want != api.OK && !a.zero {
			t.Errorf("%s: %v, not the error %d", name, a, want)
		}
	}
}

// TestNothing checks that empty lists are as nil ones (R4).
func TestNothing(t *testing.T) {
	for _, steps := range [][]api.Step{nil, {}, full().Steps[:0]} {
		s := api.System{States: 2, Steps: steps}
		for name, a := range ofOne(s, 1, []int{}) {
			want, zero := api.OK, false
			switch name {
			case "Comes", "Comes by":
				zero = true
			case "Without":
				want, zero = api.ErrArg, true
			}
			if a.err != want || a.zero != zero {
				t.Errorf("%s of no steps: %v", name, a)
			}
		}
		for name, a := range ofTwo(s, s, [][2]int{}) {
			want, zero := api.OK, false
			if name == "Shows" {
				want, zero = api.ErrNone, true
			}
			if a.err != want || a.zero != zero {
				t.Errorf("%s of no steps: %v", name, a)
			}
		}
	}
	if l, err := refine.Composed([][2]int{}, nil); len(l) > 0 || err != api.OK {
		t.Errorf("Composed of nothing: %v, %d", l, err)
	}
}

// spoil writes over lists, up to their capacity.
func spoil[T any](with T, lists ...[]T) {
	for _, l := range lists {
		l = l[:cap(l)]
		for i := range l {
			l[i] = with
		}
	}
}

// TestArgumentsStay checks that arguments are neither changed nor kept, that results are new memory, and that lists are read up to their length alone (R4).
func TestArgumentsStay(t *testing.T) {
	c, a, quiet := system("2 011 120 999"), system("2 011 120 130 999"), system("3 001 100 122 202 999")
	c.Steps, a.Steps, quiet.Steps = c.Steps[:2], a.Steps[:3], quiet.Steps[:4]
	trace, relation, other := numbers("129")[:2], pairs("00 11 99")[:2], pairs("00 01 11 99")[:3]
	step := api.Step{From: 9, Label: 9, To: 9}
	for range 2 {
		comes, _ := refine.Comes(quiet, 0, 0)
		reached, _ := refine.Reached(quiet)
		stuck, _ := refine.Stuck(system(late))
		shows, _ := refine.Shows(a, c)
		got := [][]int{comes, reached, stuck, shows}
		if !sameLists(got, lists("01 012 2 13")) {
			t.Fatalf("lists: %v", got)
		}
		best, _ := refine.Best(c, a)
		proof, _ := refine.Proof(c, a)
		composed, _ := refine.Composed(relation, other)
		if !slices.Equal(best, pairs("00 11")) || !slices.Equal(proof, pairs("00 11")) || !slices.Equal(composed, pairs("00 01 11")) {
			t.Fatalf("relations: %v, %v, %v", best, proof, composed)
		}
		isTrace, _ := refine.IsTrace(a, trace)
		isProof, _ := refine.IsProof(c, a, relation)
		if !isTrace || !isProof {
			t.Fatalf("IsTrace: %v, IsProof: %v", isTrace, isProof)
		}
		spoil(9, got...)
		spoil([2]int{9, 9}, best, proof, composed)
		made, want := systemsMade(a, quiet)
		for i, s := range made {
			if !same(s, system(want[i])) {
				t.Fatalf("a system that is made: %v, not %s", s, want[i])
			}
			spoil(step, s.Steps)
		}
		traces, _ := refine.Traces(a, 3)
		for i, want := range lists("- 1 12 121 13 131") {
			if !slices.Equal(traces[i], want) {
				t.Fatalf("traces share memory: %v", traces)
			}
			spoil(9, traces[i])
		}
		if !same(api.System{States: 2, Steps: c.Steps[:3]}, system("2 011 120 999")) || !same(api.System{States: 2, Steps: a.Steps[:4]}, system("2 011 120 130 999")) || !same(api.System{States: 3, Steps: quiet.Steps[:5]}, system("3 001 100 122 202 999")) {
			t.Fatalf("a system is changed: %v, %v, %v", c, a, quiet)
		}
		if !slices.Equal(trace[:3], numbers("129")) || !slices.Equal(relation[:3], pairs("00 11 99")) || !slices.Equal(other[:4], pairs("00 01 11 99")) {
			t.Fatalf("a list is changed: %v, %v, %v", trace, relation, other)
		}
	}
}

// systemsMade returns systems that functions make of others, and what they should be.
func systemsMade(a, quiet api.System) (got []api.System, want []string) {
	add := func(s api.System, _ api.Errno) { got = append(got, s) }
	all := system("1 010 020 030") // which is there for each label
	add(refine.Without(a, 2))
	add(refine.Without(a, 0))
	add(refine.Without(a, 1))
	add(refine.Hidden(a, 1))
	add(refine.Seen(a))
	add(refine.Seen(quiet))
	add(refine.Both(a, all))
	add(refine.Both(all, a))
	return got, []string{"2 011 120", "2 120 130", "2 011 130", "2 001 120 130", more, "2 021", more, more}
}
