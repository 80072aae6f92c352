package history_test

import (
	"slices"
	"testing"

	"lineal/api"
	"lineal/history"
)

// result is what a call returns: whether everything beside the error is zero, and the error.
type result struct {
	zero bool
	err  api.Errno
}

func ofBool(is bool, err api.Errno) result       { return result{!is, err} }
func ofInt(n int, err api.Errno) result          { return result{n == 0, err} }
func ofList(l []int, err api.Errno) result       { return result{len(l) == 0, err} }
func ofCalls(l []api.Call, err api.Errno) result { return result{len(l) == 0, err} }
func ofKeeps(a, b bool, err api.Errno) result    { return result{!a && !b, err} }

// forSpecs returns the results of the functions that take specs and a history, but for For.
func forSpecs(specs []api.Spec, h []api.Call, order []int) map[string]result {
	return map[string]result{
		"IsOrder": ofBool(history.IsOrder(specs, h, order)),
		"Allows":  ofBool(history.Allows(specs, h, order)),
		"Order":   ofList(history.Order(specs, h)),
		"Linear":  ofBool(history.Linear(specs, h)),
		"Orderly": ofBool(history.Orderly(specs, h)),
		"Orders":  ofInt(history.Orders(specs, h)),
	}
}

// ofHistory returns the results of the functions that take a history alone, with a number that all of them have for an argument.
func ofHistory(h []api.Call, n int, order []int) map[string]result {
	return map[string]result{
		"Before":      ofBool(history.Before(h, n, 0)),
		"Before b":    ofBool(history.Before(h, 0, n)),
		"Keeps":       ofKeeps(history.Keeps(h, order)),
		"Of":          ofCalls(history.Of(h, n)),
		"By":          ofCalls(history.By(h, n)),
		"Until":       ofCalls(history.Until(h, n)),
		"Width":       ofInt(history.Width(h)),
		"Alone":       ofBool(history.Alone(h)),
		"Longer":      ofCalls(history.Longer(h, n, 1, 100)),
		"Longer from": ofCalls(history.Longer(h, 0, n, 100)),
		"Longer to":   ofCalls(history.Longer(h, 0, 1, n)),
	}
}

// wrong returns specs that are none.
func wrong() map[string][]api.Spec {
	long, says := queue(), queue()
	long.Next = append(long.Next, []int{0, 0})
	says.Says[1][1] = api.MaxSays + 1
	return map[string][]api.Spec{
		"nil":             nil,
		"empty":           {},
		"zero":            {{}},
		"three":           list(queue(), queue(), queue()),
		"no first":        {{}, queue()},
		"no second":       {queue(), {}},
		"states that lie": {long},
		"an answer of 6":  {queue(), says},
	}
}

func TestErrSpec(t *testing.T) { // P2.1
	histories := invalid()
	histories["fine"] = nil
	histories["no object"] = []api.Call{on(call(0, 3, 0, 1, 2))}
	for name, specs := range wrong() {
		for kind, h := range histories {
			results := forSpecs(specs, h, []int{-1})
			results["For"] = ofBool(history.For(specs, h))
			results["Play"] = ofCalls(history.Play(specs, h))
			for which, r := range results {
				if !r.zero || r.err != api.ErrSpec {
					t.Errorf("%s, specs %s, history %s: %v", which, name, kind, r)
				}
			}
		}
	}
}

func TestErrHistory(t *testing.T) { // P2.1
	for name, h := range invalid() {
		for which, r := range forSpecs(list(still(4), still(4)), h, []int{-1}) {
			if !r.zero || r.err != api.ErrHistory {
				t.Errorf("%s of %s: %v", which, name, r)
			}
		}
		for _, n := range []int{0, -1, 1 << 62} {
			for which, r := range ofHistory(h, n, []int{-1}) {
				if !r.zero || r.err != api.ErrHistory {
					t.Errorf("%s of %s: %v", which, name, r)
				}
			}
		}
	}
	for i, h := range [][]api.Call{{on(call(0, 0, 0, 1, 2))}, {call(0, 2, 0, 1, 2)}, {call(0, 0, 1, 1, 2), call(1, 3, 0, 3, 0)}} {
		for which, r := range forSpecs(list(queue()), h, []int{-1}) {
			if !r.zero || r.err != api.ErrHistory {
				t.Errorf("%s of %d: %v", which, i, r)
			}
		}
		if _, _, err := history.Keeps(h, []int{0, 1}[:len(h)]); err != api.OK {
			t.Errorf("Keeps of %d: %d", i, err)
		}
	}
}

func TestErrArg(t *testing.T) { // P2.1, P2.2, P2.5
	h := []api.Call{call(0, 0, 1, 10, 90), call(1, 0, 1, 20, 30), call(2, 0, 1, 40, 50)}
	far := 1 << 62
	for n, failing := range map[int][]string{
		-far: {"Before", "Before b", "Of", "By", "Until", "Longer", "Longer from", "Longer to"},
		-1:   {"Before", "Before b", "Of", "By", "Until", "Longer", "Longer from", "Longer to"},
		0:    {"Longer from", "Longer to"},
		1:    {"Longer to"},
		2:    {"Of", "Longer to"},
		3:    {"Before", "Before b", "Of", "Longer", "Longer to"},
		4:    {"Before", "Before b", "Of", "By", "Longer", "Longer to"},
		100:  {"Before", "Before b", "Of", "By", "Longer", "Longer from"},
		101:  {"Before", "Before b", "Of", "By", "Until", "Longer", "Longer from", "Longer to"},
		far:  {"Before", "Before b", "Of", "By", "Until", "Longer", "Longer from", "Longer to"},
	} {
		for which, r := range ofHistory(h, n, []int{0, 1, 2}) {
			fails := slices.Contains(failing, which)
			if fails != (r.err == api.ErrArg) || !fails && r.err != api.OK || fails && !r.zero {
				t.Errorf("%s of %d: %v", which, n, r)
			}
		}
	}
	if _, err := history.Before(nil, 0, 0); err != api.ErrArg {
		t.Errorf("Before of nothing: %d", err)
	}
}

// TestNothing checks that an empty history has one order, the empty one.
func TestNothing(t *testing.T) { // P2.3, P2.4
	for which, r := range forSpecs(list(queue()), nil, nil) {
		if r.err != api.OK || r.zero != (which == "Order") {
			t.Errorf("%s of nothing: %v", which, r)
		}
	}
	if time, threads, err := history.Keeps([]api.Call{}, nil); !time || !threads || err != api.OK {
		t.Errorf("Keeps of nothing: %v, %v, %d", time, threads, err)
	}
}

// spoil writes over a list, up to its capacity.
func spoil[T any](l []T, with T) {
	l = l[:cap(l)]
	for i := range l {
		l[i] = with
	}
}

// TestArgumentsStay checks that arguments are neither changed nor kept, and that results are new memory (R4).
func TestArgumentsStay(t *testing.T) {
	h := []api.Call{call(0, 0, 1, 1, 4), call(1, 1, 1, 2, 3), call(1, 0, 0, 5, 0), on(call(2, 1, 0, 6, 7))}
	word := []api.Call{{}, {Object: 1, Op: 1}, {Thread: 2, Op: 1}}
	order := []int{0, 1, 3}
	specs := list(queue(), queue())
	given, wordGiven, orderGiven := slices.Clone(h), slices.Clone(word), slices.Clone(order)
	for range 2 {
		forSpecs(specs, h, order)
		ofHistory(h, 1, order)
		of, _ := history.Of(h, 0)
		by, _ := history.By(h, 1)
		until, _ := history.Until(h, 100)
		longer, _ := history.Longer(h, 3, 6, 9)
		played, _ := history.Play(specs, word)
		if len(of) != 3 || len(by) != 2 || len(until) != 4 || len(longer) != 4 || len(played) != 3 {
			t.Fatalf("Of: %v, By: %v, Until: %v, Longer: %v, Play: %v", of, by, until, longer, played)
		}
		for _, l := range [][]api.Call{of, by, until, longer, played} {
			spoil(l, api.Call{Thread: 9})
		}
		first, _ := history.Order(specs, h)
		if !slices.Equal(first, []int{0, 1, 2, 3}) {
			t.Fatalf("Order: %v", first)
		}
		spoil(first, 9)
		if !slices.Equal(h, given) || !slices.Equal(word, wordGiven) || !slices.Equal(order, orderGiven) {
			t.Fatalf("an argument is changed: %v, %v, %v", h, word, order)
		}
		for _, s := range specs {
			if !slices.EqualFunc(s.Next, queue().Next, slices.Equal) || !slices.EqualFunc(s.Says, queue().Says, slices.Equal) {
				t.Fatalf("a specification is changed: %v", s)
			}
		}
	}
}
