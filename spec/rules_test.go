package spec_test

import (
	"slices"
	"testing"

	"lineal/api"
	"lineal/spec"
)

// result is what a call returns: whether everything beside the error is zero, and the error.
type result struct {
	zero bool
	err  api.Errno
}

func ofBool(is bool, err api.Errno) result      { return result{!is, err} }
func ofList(list []int, err api.Errno) result   { return result{len(list) == 0, err} }
func ofSpec(s api.Spec, err api.Errno) result   { return result{equal(s, api.Spec{}), err} }
func ofRun(l []int, to int, e api.Errno) result { return result{len(l) == 0 && to == 0, e} }
func ofMeddles(s, a, b int, e api.Errno) result { return result{s == 0 && a == 0 && b == 0, e} }

// calls returns the results of all functions for a specification, another one, a state, a call and a word.
func calls(s, other api.Spec, state, op int, word []int) map[string]result {
	return map[string]result{
		"Run":          ofRun(spec.Run(s, state, word)),
		"Tells":        ofBool(spec.Tells(s, 0, state, word)),
		"Tells b":      ofBool(spec.Tells(s, state, 0, word)),
		"Same":         ofBool(spec.Same(s, 0, state)),
		"Same b":       ofBool(spec.Same(s, state, 0)),
		"Word":         ofList(spec.Word(s, 0, state)),
		"Word b":       ofList(spec.Word(s, state, 0)),
		"Classes":      ofList(spec.Classes(s)),
		"Reached":      ofList(spec.Reached(s)),
		"Way":          ofList(spec.Way(s, state)),
		"Least":        ofSpec(spec.Least(s)),
		"Alike":        ofBool(spec.Alike(s, other)),
		"Alike t":      ofBool(spec.Alike(other, s)),
		"Unlike":       ofList(spec.Unlike(s, other)),
		"Unlike t":     ofList(spec.Unlike(other, s)),
		"Commute":      ofBool(spec.Commute(s, state, op, 0)),
		"Commute b":    ofBool(spec.Commute(s, state, 0, op)),
		"Overwrites":   ofBool(spec.Overwrites(s, state, op, 0)),
		"Overwrites b": ofBool(spec.Overwrites(s, state, 0, op)),
		"Meddles":      ofMeddles(spec.Meddles(s)),
		"Reads":        ofBool(spec.Reads(s, op)),
		"Both":         ofSpec(spec.Both(s, other)),
		"Both t":       ofSpec(spec.Both(other, s)),
		"Begun":        ofSpec(spec.Begun(s, state)),
	}
}

// TestErrSpec checks that ErrSpec comes before all other errors.
func TestErrSpec(t *testing.T) { // P1.1
	for name, s := range invalid() {
		for _, other := range []api.Spec{flag(), ring(1), still(8, 4), {}} {
			for call, r := range calls(s, other, -1, -1, make([]int, 21)) {
				if !r.zero || r.err != api.ErrSpec {
					t.Errorf("%s of %s: %v", call, name, r)
				}
			}
		}
	}
}

// TestErrArg checks states, calls and words that are none.
func TestErrArg(t *testing.T) { // P1.1
	states := []string{"Run", "Tells", "Tells b", "Same", "Same b", "Word", "Word b", "Way", "Commute", "Commute b", "Overwrites", "Overwrites b", "Begun"}
	ops := []string{"Commute", "Commute b", "Overwrites", "Overwrites b", "Reads"}
	words := []string{"Run", "Tells", "Tells b"}
	far := 1 << 62
	for _, c := range []struct {
		state, op int
		word      []int
		failing   []string
	}{
		{-1, 0, nil, states},
		{2, 0, nil, states},
		{far, 0, nil, states},
		{-far, 0, nil, states},
		{0, -1, nil, ops},
		{0, 2, nil, ops},
		{0, far, nil, ops},
		{0, -far, nil, ops},
		{1, 0, []int{2}, words},
		{1, 0, []int{0, 1, -1}, words},
		{1, 0, make([]int, 21), words},
		{0, 0, make([]int, 21), words},
		{1, 1, make([]int, 20), nil},
	} {
		for call, r := range calls(flag(), place(), c.state, c.op, c.word) {
			fails := slices.Contains(c.failing, call)
			if fails != (r.err == api.ErrArg) || fails && !r.zero {
				t.Errorf("%s of state %d, call %d, %d calls: %v", call, c.state, c.op, len(c.word), r)
			}
		}
	}
}

// TestErrorsTogether checks errors of which several apply.
func TestErrorsTogether(t *testing.T) { // P1.1
	if _, err := spec.Unlike(flag(), api.Spec{Ops: 1}); err != api.ErrSpec {
		t.Errorf("Unlike: %d", err)
	}
	if _, err := spec.Alike(flag(), api.Spec{Ops: 1}); err != api.ErrSpec {
		t.Errorf("Alike: %d", err)
	}
	if _, err := spec.Both(still(8, 4), still(9, 5)); err != api.ErrSpec {
		t.Errorf("Both: %d", err)
	}
	if _, err := spec.Way(partly(), 5); err != api.ErrArg {
		t.Errorf("Way: %d", err)
	}
	if _, err := spec.Word(flag(), 2, 2); err != api.ErrArg {
		t.Errorf("Word: %d", err)
	}
}

// TestArgumentsStay checks that arguments are neither changed nor kept, and that results are new memory (R4).
func TestArgumentsStay(t *testing.T) {
	s, other := partly(), place()
	word := append(make([]int, 0, 30), 0, 1, 0)
	before := calls(s, other, 1, 1, word)
	if !equal(s, partly()) || !equal(other, place()) || !slices.Equal(word, []int{0, 1, 0}) {
		t.Error("an argument is changed")
	}
	if !slices.Equal(word[:30][3:], make([]int, 27)) {
		t.Error("a word is changed behind its end")
	}
	for call, r := range calls(s, other, 1, 1, word) {
		if before[call] != r {
			t.Errorf("%s: %v, then %v", call, before[call], r)
		}
	}
	least, _ := spec.Least(flag())
	begun, _ := spec.Begun(flag(), 0)
	both, _ := spec.Both(still(2, 1), still(2, 1))
	for _, made := range []api.Spec{least, begun, both} {
		checkApart(t, made)
	}
	given := flag()
	begun, _ = spec.Begun(given, 0)
	least, _ = spec.Least(given)
	both, _ = spec.Both(given, given)
	for _, made := range []api.Spec{begun, least, both} {
		for i := range made.Next {
			made.Next[i][0], made.Says[i][0] = 9, 9
		}
	}
	if !equal(given, flag()) {
		t.Error("a result shares memory with an argument")
	}
}

// checkApart checks that no two rows of a specification share memory.
func checkApart(t *testing.T, s api.Spec) {
	rows := slices.Concat(s.Next, s.Says)
	for i := range rows {
		was := copied(s)
		for k := range rows[i][:cap(rows[i])] {
			rows[i][:cap(rows[i])][k] += 100
		}
		changed := 0
		for k, row := range slices.Concat(was.Next, was.Says) {
			if !slices.Equal(row, rows[k]) {
				changed++
			}
		}
		if changed != 1 {
			t.Errorf("%d rows change with one: %v", changed, s)
		}
	}
}
