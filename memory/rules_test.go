package memory_test

import (
	"slices"
	"testing"

	"lineal/api"
	"lineal/memory"
)

// answer is what a call returns: whether everything beside the error is zero, and the error.
type answer struct {
	zero bool
	err  api.Errno
}

func isTrue(is bool, err api.Errno) answer         { return answer{!is, err} }
func number(n int, err api.Errno) answer           { return answer{n == 0, err} }
func listed[T any](list []T, err api.Errno) answer { return answer{len(list) == 0, err} }

// answers returns the answers of all functions for a program, with a number, and a list, for each further argument.
func answers(p [][]api.Act, n int, list []int) map[string]answer {
	return map[string]answer{
		"Outcomes":  listed(memory.Outcomes(p, n)),
		"Can":       isTrue(memory.Can(p, n, list)),
		"More":      listed(memory.More(p, n, n)),
		"More of":   listed(memory.More(p, 1, n)),
		"Run":       listed(memory.Run(p, list)),
		"Schedule":  listed(memory.Schedule(p, list)),
		"Schedules": number(memory.Schedules(p)),
		"Loads":     number(memory.Loads(p)),
		"Fenced":    listed(memory.Fenced(p, n, n)),
		"Unfenced":  listed(memory.Unfenced(p)),
		"AllFenced": listed(memory.AllFenced(p)),
		"Bare":      isTrue(memory.Bare(p)),
		"Renamed":   listed(memory.Renamed(p, list)),
		"Swapped":   listed(memory.Swapped(p, n, n)),
		"Needed":    listed(memory.Needed(p, n)),
		"Races":     isTrue(memory.Races(p)),
	}
}

func TestErrProgram(t *testing.T) { // P4.1
	for kind, p := range invalid() {
		for _, n := range []int{0, 1, 2, 3, -1, 9, 1 << 62, -1 << 63} {
			for _, list := range [][]int{nil, {0}, {-1}, {0, 0, 0}, make([]int, len(p)), make([]int, 1000)} {
				for name, a := range answers(p, n, list) {
					if !a.zero || a.err != api.ErrProgram {
						t.Errorf("%s of %s: %v", name, kind, a)
					}
				}
			}
		}
	}
}

func TestErrArg(t *testing.T) { // P4.1
	p := program("x1 - y|y1 - x")
	for _, n := range []int{-1, 9, 1 << 62, -1 << 63} {
		for name, a := range answers(p, n, []int{n}) {
			want := api.ErrArg
			switch name {
			case "Schedules", "Loads", "Unfenced", "AllFenced", "Bare", "Races":
				want = api.OK
			case "Schedule": // an outcome that is none is no argument that is wrong
				want = api.ErrNone
			}
			if a.err != want || a.zero == (want == api.OK) {
				t.Errorf("%s of %d: %v, not %d", name, n, a, want)
			}
		}
	}
}

// TestNothing checks that an empty thread, and an empty list, are as nil ones (R4).
func TestNothing(t *testing.T) {
	for _, p := range [][][]api.Act{{nil}, {{}}, {make([]api.Act, 5)[:0]}} {
		for name, a := range answers(p, 1, []int{}) {
			want, zero := api.OK, false
			switch name {
			case "Can", "More", "More of", "Run", "Loads", "Needed", "Races":
				zero = true
			}
			switch name {
			case "Schedule":
				want, zero = api.ErrNone, true
			case "Fenced", "Renamed":
				want, zero = api.ErrArg, true
			case "Run": // the outcome of no act
				zero = false
			}
			if a.err != want || a.zero != zero {
				t.Errorf("%s of nothing: %v", name, a)
			}
		}
	}
}

// spoil writes over lists, up to their capacity.
func spoil[T any](with T, lists ...[]T) {
	for _, l := range lists {
		l = l[:cap(l)]
		for i := range l {
			l[i] = with
		}
	}
}

// apart checks that the lists of a result share no memory: each is what it was when those before it are written over.
func apart[T comparable](t *testing.T, name string, with T, lists, want [][]T) {
	t.Helper()
	if !slices.EqualFunc(lists, want, slices.Equal) {
		t.Fatalf("%s: %v", name, lists)
	}
	for i, l := range lists {
		if !slices.Equal(l, want[i]) {
			t.Fatalf("lists of %s share memory: %v", name, lists)
		}
		spoil(with, l)
	}
}

// TestArgumentsStay checks that arguments are neither changed nor kept, and that results are new memory (R4).
func TestArgumentsStay(t *testing.T) {
	all := program("x1 - y z2|y1 - x z3|- - z y")
	p := [][]api.Act{all[0][:3], all[1][:3], all[2][:3]}
	given := copied(all)
	act := api.Act{Do: 9, Var: 9, Value: 9}
	schedule, threads := []int{0, 0, 1, 1, 2, 2, 2, 0, 1, 7}, []int{2, 0, 1, 7}
	for range 2 {
		fenced, _ := memory.Fenced(p, 1, 3)
		apart(t, "Fenced", act, fenced, program("x1 - y|y1 - x -|- - z"))
		unfenced, _ := memory.Unfenced(p)
		apart(t, "Unfenced", act, unfenced, program("x1 y|y1 x|z"))
		allFenced, _ := memory.AllFenced(p)
		apart(t, "AllFenced", act, allFenced, program("x1 - y|y1 - x|z"))
		renamed, _ := memory.Renamed(p, threads[:3])
		apart(t, "Renamed", act, renamed, program("- - z|x1 - y|y1 - x"))
		swapped, _ := memory.Swapped(p, 0, 2)
		apart(t, "Swapped", act, swapped, program("z1 - y|y1 - z|- - x"))
		equal, _ := memory.Swapped(p, 0, 0)
		apart(t, "Swapped", act, equal, p)
		outcomes, _ := memory.Outcomes(p, 3)
		apart(t, "Outcomes", 9, outcomes, lists("010110 100110 110110"))
		more, _ := memory.More(unfenced[:0], 1, 1)
		run, _ := memory.Run(p, schedule[:9])
		found, _ := memory.Schedule(p, numbers("110110"))
		needed, _ := memory.Needed(p, 2)
		if len(more) > 0 || !slices.Equal(run, numbers("110110")) || !slices.Equal(found, numbers("001011222")) || !slices.Equal(needed, [][2]int{{0, 1}, {1, 1}}) {
			t.Fatalf("More: %v, Run: %v, Schedule: %v, Needed: %v", more, run, found, needed)
		}
		spoil(9, run, found)
		spoil([2]int{9, 9}, needed)
		if !samePrograms(all, given) || !slices.Equal(schedule, []int{0, 0, 1, 1, 2, 2, 2, 0, 1, 7}) || !slices.Equal(threads, []int{2, 0, 1, 7}) {
			t.Fatalf("an argument is changed: %v, %v, %v", all, schedule, threads)
		}
	}
}
