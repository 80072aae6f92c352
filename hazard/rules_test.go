package hazard_test

import (
	"slices"
	"testing"

	"lineal/api"
	"lineal/hazard"
)

// answer is what a call returns: whether everything beside the error is zero, and the error.
type answer struct {
	zero bool
	err  api.Errno
}

func number(n int, err api.Errno) answer      { return answer{n == 0, err} }
func listed(list []int, err api.Errno) answer { return answer{len(list) == 0, err} }
func alone(err api.Errno) answer              { return answer{true, err} }

// answers returns the answers of the methods that have errors.
func answers(y *hazard.Yard, thread, slot, node int) map[string]answer {
	return map[string]answer{
		"Take":        number(y.Take(thread)),
		"Point":       alone(y.Point(thread, slot, node)),
		"Clear":       alone(y.Clear(thread, slot)),
		"PutBy":       number(y.PutBy(thread, node)),
		"Sweep":       number(y.Sweep(thread)),
		"Use":         number(y.Use(thread, slot)),
		"State":       number(y.State(node)),
		"List":        listed(y.List(thread)),
		"Slot":        number(y.Slot(thread, slot)),
		"Do of take":  number(y.Do(hazard.Deed{Do: 1, A: thread})),
		"Do of point": number(y.Do(hazard.Deed{Do: 2, A: thread, B: slot, C: node})),
		"Do of clear": number(y.Do(hazard.Deed{Do: 3, A: thread, B: slot})),
		"Do of putBy": number(y.Do(hazard.Deed{Do: 4, A: thread, B: node})),
		"Do of sweep": number(y.Do(hazard.Deed{Do: 5, A: thread})),
		"Do of use":   number(y.Do(hazard.Deed{Do: 6, A: thread, B: slot})),
	}
}

func check(t *testing.T, all map[string]answer, err api.Errno, names ...string) {
	t.Helper()
	for name, a := range all {
		if (len(names) == 0 || slices.Contains(names, name)) && (!a.zero || a.err != err) {
			t.Errorf("%s: %v, not the error %d", name, a, err)
		}
	}
}

// nowhere returns numbers that are no threads, slots or nodes.
func nowhere() []int { return []int{-1 << 63, -1 << 32, -1, 8, 9, 1 << 32, 1 << 62, 1<<63 - 1} }

// TestErrYard checks that a yard that is nil, or zero, has that error before all others, and nothing else (R7).
func TestErrYard(t *testing.T) { // P6.1, P6.2, P6.6
	full := yard(t, 2, 2, "10 2000 10 401")
	for _, y := range []*hazard.Yard{nil, {}, new(hazard.Yard)} {
		for _, n := range append(nowhere(), 0, 1) {
			check(t, answers(y, n, n, n), api.ErrYard)
			for _, d := range []hazard.Deed{{}, {Do: n}, {Do: 1, B: n}, {Do: 5, C: n}, {Do: 7}} {
				check(t, map[string]answer{"Do": number(y.Do(d))}, api.ErrYard)
			}
		}
		if y.By() != 0 || y.Free() != 0 || len(y.Held()) != 0 || y.Copy() != nil {
			t.Errorf("a nil yard has something: %d, %d, %v", y.By(), y.Free(), y.Held())
		}
		if !hazard.Same(y, nil) || !hazard.Same(nil, y) || !hazard.Same(y, &hazard.Yard{}) || hazard.Same(y, full) || hazard.Same(full, y) {
			t.Errorf("Same of a nil yard")
		}
		if y != nil && *y != (hazard.Yard{}) {
			t.Errorf("a zero yard is changed")
		}
	}
}

// TestErrArg checks that what is no thread, slot or node is found first, also where the deed is not possible.
func TestErrArg(t *testing.T) { // P6.1
	ofThread := []string{"Take", "Point", "Clear", "PutBy", "Sweep", "Use", "List", "Slot", "Do of take", "Do of point", "Do of clear", "Do of putBy", "Do of sweep", "Do of use"}
	ofSlot := []string{"Point", "Clear", "Use", "Slot", "Do of point", "Do of clear", "Do of use"}
	ofNode := []string{"Point", "PutBy", "State", "Do of point", "Do of putBy"}
	for _, text := range []string{"", "10 10 10 10 10 10 10 10", "10 2000 400", "10 2000 2010 2100 2110"} {
		for threads := 2; threads <= 4; threads++ {
			y := yard(t, threads, 4, text)
			try := func(thread, slot, node int, names []string) {
				t.Helper()
				check(t, answers(y, thread, slot, node), api.ErrArg, names...)
				y = yard(t, threads, 4, text)
			}
			for _, n := range append(nowhere(), 4, threads) {
				try(n, 0, 0, ofThread)
				try(n, n, n, ofThread)
			}
			for _, n := range append(nowhere(), 2, 3, 4) {
				try(0, n, 0, ofSlot)
				try(1, n, 7, ofSlot)
			}
			for _, n := range nowhere() {
				try(0, 0, n, ofNode)
			}
		}
	}
}

// TestNotADeed checks deeds that are none, or have a field that they should not have.
func TestNotADeed(t *testing.T) { // P6.5
	fields := map[int]int{1: 1, 2: 3, 3: 2, 4: 2, 5: 1, 6: 2}
	y := yard(t, 1, 1, "10 2000 10 401")
	before := y.Copy()
	for _, n := range append(nowhere(), 0, 7) {
		for _, d := range []hazard.Deed{{Do: n}, {Do: n, A: n, B: n, C: n}} {
			check(t, map[string]answer{"Do": number(y.Do(d))}, api.ErrArg)
		}
	}
	for do := 1; do <= 6; do++ {
		for _, n := range append(nowhere(), 1, 2) {
			if fields[do] < 2 {
				check(t, map[string]answer{"Do with B": number(y.Do(hazard.Deed{Do: do, B: n}))}, api.ErrArg)
			}
			if fields[do] < 3 {
				check(t, map[string]answer{"Do with C": number(y.Do(hazard.Deed{Do: do, C: n}))}, api.ErrArg)
			}
		}
	}
	if !hazard.Same(y, before) {
		t.Errorf("what is no deed has an effect")
	}
}

// TestErrorsDoNothing checks that a call with an error has no effect (R3).
func TestErrorsDoNothing(t *testing.T) { // P6.10
	y := yard(t, 2, 2, "10 10 10 10 10 10 10 10 2000 400 411")
	before := y.Copy()
	for _, n := range nowhere() {
		answers(y, n, n, n)
		answers(y, 2, n, n)
	}
	check(t, map[string]answer{
		"Take":    number(y.Take(1)),
		"Point":   alone(y.Point(1, 1, 0)),
		"PutBy":   number(y.PutBy(1, 0)),
		"Use":     number(y.Use(1, 1)),
		"Do take": number(y.Do(hazard.Deed{Do: 1, A: 1})),
		"Do use":  number(y.Do(hazard.Deed{Do: 6, A: 1, B: 1})),
	}, api.ErrNone)
	if !hazard.Same(y, before) {
		t.Errorf("an error has an effect")
	}
}

// spoil writes over a list, up to its capacity.
func spoil(l []int) {
	l = l[:cap(l)]
	for i := range l {
		l[i] = 9
	}
}

// TestResultsAreNew checks that results are new memory, that arguments are neither changed nor kept, and that lists are read up to their length alone (R4).
func TestResultsAreNew(t *testing.T) {
	y := yard(t, 1, 4, "10 10 10 2000 2012 402 400")
	for range 2 {
		list, _ := y.List(0)
		held := y.Held()
		if !slices.Equal(list, []int{2, 0}) || !slices.Equal(held, []int{0, 2}) {
			t.Fatalf("List %v, Held %v", list, held)
		}
		spoil(list)
		spoil(held)
	}
	if n, err := y.PutBy(0, 1); n != 0 || err != api.OK {
		t.Errorf("PutBy: %d, %d", n, err)
	}
	if n, err := y.Sweep(0); n != 1 || err != api.OK {
		t.Errorf("Sweep: %d, %d", n, err)
	}
	all := deeds("10 10 400 401 10 10")
	for range 2 {
		l, err := hazard.Play(1, 2, all[:4])
		if !slices.Equal(l, []int{0, 1, 0, 2}) || err != api.OK {
			t.Fatalf("Play: %v, %d", l, err)
		}
		spoil(l)
	}
	if !slices.Equal(all, deeds("10 10 400 401 10 10")) {
		t.Errorf("an argument is changed: %v", all)
	}
	for _, none := range [][]hazard.Deed{nil, {}, all[:0]} {
		if l, err := hazard.Play(1, 1, none); len(l) != 0 || err != api.OK {
			t.Errorf("Play of nothing: %v, %d", l, err)
		}
	}
}
