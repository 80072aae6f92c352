package history_test

import (
	"slices"
	"testing"

	"lineal/api"
	"lineal/history"
)

// queue returns a queue of one place: put (0) and take (1).
func queue() api.Spec {
	return api.Spec{States: 2, Ops: 2, Next: [][]int{{1, 0}, {1, 0}}, Says: [][]int{{1, 0}, {0, 1}}}
}

// flag returns a flag: set (0) and ask (1).
func flag() api.Spec {
	return api.Spec{States: 2, Ops: 2, Next: [][]int{{1, 0}, {1, 1}}, Says: [][]int{{0, 0}, {0, 1}}}
}

// counter returns a specification of one call that answers 0, 1, 2, 3, and 0 again.
func counter() api.Spec {
	return api.Spec{States: 4, Ops: 1, Next: [][]int{{1}, {2}, {3}, {0}}, Says: [][]int{{0}, {1}, {2}, {3}}}
}

// still returns a specification of calls that do nothing and answer 0.
func still(ops int) api.Spec {
	return api.Spec{States: 1, Ops: ops, Next: [][]int{make([]int, ops)}, Says: [][]int{make([]int, ops)}}
}

// list makes a list of specifications.
func list(specs ...api.Spec) []api.Spec { return specs }

// call returns a call of the object 0; on puts it on the object 1.
func call(thread, op, says, from, to int) api.Call {
	return api.Call{Thread: thread, Op: op, Says: says, From: from, To: to}
}

func on(c api.Call) api.Call {
	c.Object = 1
	return c
}

// invalid returns histories that are not valid, each for another reason.
func invalid() map[string][]api.Call {
	nine := make([]api.Call, api.MaxCalls+1)
	for i := range nine {
		nine[i] = call(0, 0, 0, 2*i+1, 2*i+2)
	}
	fine := call(1, 0, 0, 3, 6)
	return map[string][]api.Call{
		"zero":                   make([]api.Call, 1),
		"nine calls":             nine,
		"thread 4":               {call(4, 0, 0, 1, 2)},
		"thread -1":              {call(-1, 0, 0, 1, 2)},
		"object 2":               {{Object: 2, From: 1, To: 2}},
		"object -1":              {{Object: -1, From: 1, To: 2}},
		"op 4":                   {call(0, 4, 0, 1, 2)},
		"op -1":                  {call(0, -1, 0, 1, 2)},
		"says 10":                {call(0, 0, 10, 1, 2)},
		"says -1":                {call(0, 0, -1, 1, 2)},
		"open and says 1":        {call(0, 0, 1, 1, 0)},
		"from 0":                 {call(0, 0, 0, 0, 2)},
		"from -1":                {call(0, 0, 0, -1, 2)},
		"from 101, open":         {call(0, 0, 0, 101, 0)},
		"from 100, to 101":       {call(0, 0, 0, 100, 101)},
		"to -1":                  {call(0, 0, 0, 1, -1)},
		"to is from":             {call(0, 0, 0, 3, 3)},
		"to before from":         {call(0, 0, 0, 3, 2)},
		"the second is none":     {fine, call(0, 0, 10, 1, 2)},
		"from twice":             {fine, call(0, 0, 0, 3, 4)},
		"to twice":               {fine, call(0, 0, 0, 1, 6)},
		"from is a to":           {fine, call(0, 0, 0, 6, 7)},
		"to is a from":           {fine, call(0, 0, 0, 2, 3)},
		"from of an open one":    {fine, call(0, 0, 0, 6, 0)},
		"twice the same":         {fine, fine},
		"overlap in a thread":    {call(0, 0, 0, 1, 3), call(0, 0, 0, 2, 4)},
		"within, in a thread":    {call(0, 0, 0, 2, 3), call(0, 0, 0, 1, 4)},
		"other object, overlaps": {call(0, 0, 0, 1, 3), on(call(0, 0, 0, 2, 4))},
		"open, then another":     {call(0, 0, 0, 1, 0), call(0, 0, 0, 2, 4)},
		"listed behind, open":    {call(0, 0, 0, 2, 4), call(0, 0, 0, 1, 0)},
		"two open in a thread":   {call(0, 0, 0, 1, 0), call(0, 0, 0, 2, 0)},
	}
}

// eight returns a history of eight calls, as many as there may be, with the largest numbers.
func eight() []api.Call {
	var h []api.Call
	for i := range api.MaxCalls {
		h = append(h, call(i%4, 3, 9, 85+i, 93+i))
		if i >= 4 {
			h[i] = on(call(i%4, i%4, i, 1+i, 20+i))
		}
	}
	return h
}

func TestValid(t *testing.T) { // P2.2
	for i, h := range [][]api.Call{
		nil,
		{},
		{call(3, 3, 9, 1, 100)},
		{on(call(0, 0, 0, 100, 0))},
		{call(0, 0, 0, 99, 100)},
		{call(0, 0, 0, 5, 6), call(0, 0, 0, 1, 2)},
		{call(0, 0, 0, 5, 0), call(0, 0, 0, 1, 4)},
		{call(0, 0, 0, 1, 0), call(1, 0, 0, 2, 0), call(2, 0, 0, 3, 0), call(3, 0, 0, 4, 0)},
		eight(),
		append([]api.Call{call(0, 0, 0, 1, 2)}, make([]api.Call, 20)...)[:1],
	} {
		if !history.Valid(h) {
			t.Errorf("Valid of %d is false", i)
		}
	}
	for name, h := range invalid() {
		if history.Valid(h) {
			t.Errorf("%s: Valid is true", name)
		}
	}
}

func TestFor(t *testing.T) { // P2.2
	for i, c := range []struct {
		specs []api.Spec
		h     []api.Call
		is    bool
	}{
		{list(queue()), nil, true},
		{list(queue(), flag()), nil, true},
		{list(queue()), []api.Call{call(0, 1, 9, 1, 2)}, true},
		{list(queue()), []api.Call{call(0, 2, 0, 1, 2)}, false},
		{list(queue()), []api.Call{on(call(0, 0, 0, 1, 2))}, false},
		{list(counter(), queue()), []api.Call{on(call(0, 1, 0, 1, 2))}, true},
		{list(counter(), queue()), []api.Call{call(0, 1, 0, 1, 2)}, false},
		{list(queue(), counter()), []api.Call{on(call(0, 1, 0, 1, 2))}, false},
		{list(still(4), still(4)), eight(), true},
		{list(still(4), still(3)), eight(), false},
	} {
		if is, err := history.For(c.specs, c.h); is != c.is || err != api.OK {
			t.Errorf("For of %d: %v, %d", i, is, err)
		}
	}
	for name, h := range invalid() {
		if is, err := history.For(list(still(4), still(4)), h); is || err != api.OK {
			t.Errorf("%s: For: %v, %d", name, is, err)
		}
	}
}

func TestBefore(t *testing.T) { // P2.2
	h := []api.Call{call(0, 0, 0, 7, 8), call(1, 0, 0, 1, 0), call(2, 0, 0, 2, 6), call(3, 0, 0, 5, 10), on(call(2, 0, 0, 9, 0))}
	are := [][2]int{{0, 4}, {2, 0}, {2, 4}}
	for a := range h {
		for b := range h {
			if is, err := history.Before(h, a, b); is != slices.Contains(are, [2]int{a, b}) || err != api.OK {
				t.Errorf("Before(%d, %d): %v, %d", a, b, is, err)
			}
		}
	}
}

func TestListsOfCalls(t *testing.T) { // P2.3
	queues := list(queue(), queue())
	// A put that covers a take of the same object; then the thread of the take puts on, and takes from the other object.
	h := []api.Call{call(0, 0, 1, 1, 4), call(1, 1, 1, 2, 3), call(1, 0, 0, 5, 0), on(call(2, 1, 0, 6, 7))}
	for _, c := range []struct {
		order                 []int
		time, threads, allows bool
	}{
		{[]int{0, 1, 3}, true, true, true},
		{[]int{0, 1, 2, 3}, true, true, true},
		{[]int{0, 1, 3, 2}, true, true, true},
		{[]int{1, 0, 3}, true, true, false},
		{[]int{0, 3, 1}, false, true, true},
		{[]int{3, 0, 1}, false, true, true},
		{[]int{0, 2, 1, 3}, false, false, true},
		{[]int{2, 0, 1, 3}, false, false, false},
		{[]int{1, 3, 2, 0}, false, true, false},
	} {
		time, threads, err := history.Keeps(h, c.order)
		if time != c.time || threads != c.threads || err != api.OK {
			t.Errorf("Keeps(%v): %v, %v, %d", c.order, time, threads, err)
		}
		if is, err := history.Allows(queues, h, c.order); is != c.allows || err != api.OK {
			t.Errorf("Allows(%v): %v, %d", c.order, is, err)
		}
		if is, err := history.IsOrder(queues, h, c.order); is != (c.time && c.allows) || err != api.OK {
			t.Errorf("IsOrder(%v): %v, %d", c.order, is, err)
		}
	}
}

func TestNoOrders(t *testing.T) { // P2.1, P2.3
	queues := list(queue(), queue())
	h := []api.Call{call(0, 0, 1, 1, 4), call(1, 1, 1, 2, 3), call(1, 0, 0, 5, 0), on(call(2, 1, 0, 6, 7))}
	for _, order := range [][]int{
		nil, {0}, {0, 1}, {0, 3}, {1, 3, 2}, {0, 1, 3, 3}, {0, 1, 3, 2, 2}, {0, 0, 1, 3}, {0, 1, 3, 4}, {-1, 0, 1, 3},
		{0, 1, 3, 1 << 62}, {-1 << 62, 0, 1, 3}, make([]int, 1000),
	} {
		if time, threads, err := history.Keeps(h, order); time || threads || err != api.ErrArg {
			t.Errorf("Keeps(%v): %v, %v, %d", order, time, threads, err)
		}
		if is, err := history.Allows(queues, h, order); is || err != api.ErrArg {
			t.Errorf("Allows(%v): %v, %d", order, is, err)
		}
		if is, err := history.IsOrder(queues, h, order); is || err != api.OK {
			t.Errorf("IsOrder(%v): %v, %d", order, is, err)
		}
	}
}

// found is what there is to know of the orders of a history.
type found struct {
	order   []int
	orders  int
	orderly bool
}

func checkOrders(t *testing.T, name string, specs []api.Spec, h []api.Call, want found) {
	t.Helper()
	order, err := history.Order(specs, h)
	if want.orders > 0 && err != api.OK || want.orders == 0 && err != api.ErrNone || !slices.Equal(order, want.order) {
		t.Errorf("%s: Order: %v, %d, not %v", name, order, err, want.order)
	}
	if n, err := history.Orders(specs, h); n != want.orders || err != api.OK {
		t.Errorf("%s: Orders: %d, %d, not %d", name, n, err, want.orders)
	}
	if is, err := history.Linear(specs, h); is != (want.orders > 0) || err != api.OK {
		t.Errorf("%s: Linear: %v, %d", name, is, err)
	}
	if is, err := history.Orderly(specs, h); is != want.orderly || err != api.OK {
		t.Errorf("%s: Orderly: %v, %d", name, is, err)
	}
}

func TestOrders(t *testing.T) { // P2.4
	one := list(queue())
	put := call(0, 0, 1, 1, 6)
	for _, c := range []struct {
		name  string
		specs []api.Spec
		h     []api.Call
		want  found
	}{
		{"nothing", one, nil, found{nil, 1, true}},
		{"the take within says 1", one, []api.Call{put, call(1, 1, 1, 2, 5)}, found{[]int{0, 1}, 1, true}},
		{"the take within says 0", one, []api.Call{put, call(1, 1, 0, 2, 5)}, found{[]int{1, 0}, 1, true}},
		{"the take behind says 0", one, []api.Call{put, call(1, 1, 0, 7, 8)}, found{nil, 0, true}},
		{"the take behind, of the same thread", one, []api.Call{put, call(0, 1, 0, 7, 8)}, found{}},
		{"an open put", one, []api.Call{call(0, 0, 0, 1, 0), call(1, 1, 1, 2, 3)}, found{[]int{0, 1}, 1, true}},
		{"an open put, listed behind", one, []api.Call{call(1, 1, 1, 2, 3), call(0, 0, 0, 1, 0)}, found{[]int{1, 0}, 1, true}},
		{"an open put, taken later", one, []api.Call{call(0, 0, 0, 4, 0), call(1, 1, 1, 2, 3)}, found{nil, 0, true}},
		{"an open put, not done", one, []api.Call{call(0, 0, 0, 1, 0), call(1, 1, 0, 2, 3)}, found{[]int{1}, 2, true}},
		{"open alone", one, []api.Call{call(0, 0, 0, 1, 0)}, found{nil, 2, true}},
		{"three open", list(still(1)), []api.Call{call(0, 0, 0, 1, 0), call(1, 0, 0, 2, 0), call(2, 0, 0, 3, 0)}, found{nil, 16, true}},
		{"says too much", list(counter()), []api.Call{call(0, 0, 9, 1, 2)}, found{}},
		{"the first one counts", list(counter()), []api.Call{call(0, 0, 1, 1, 4), call(1, 0, 0, 2, 3)}, found{[]int{1, 0}, 1, true}},
		{"the state behind the first", list(counter()), []api.Call{call(0, 0, 1, 1, 2)}, found{}},
		{"an object each", list(counter(), flag()), []api.Call{call(0, 0, 0, 1, 2), on(call(1, 1, 0, 3, 4)), call(1, 0, 1, 5, 6)}, found{[]int{0, 1, 2}, 1, true}},
		{"one object fails", list(counter(), flag()), []api.Call{call(0, 0, 0, 1, 2), on(call(1, 1, 1, 3, 4)), call(1, 0, 1, 5, 6)}, found{}},
		{"a list from behind", list(counter()), []api.Call{call(0, 0, 2, 5, 6), call(1, 0, 1, 3, 4), call(2, 0, 0, 1, 2)}, found{[]int{2, 1, 0}, 1, true}},
	} {
		checkOrders(t, c.name, c.specs, c.h, c.want)
	}
}

// wide returns two rounds of the four threads; all calls of a round are under way at once.
func wide(says func(i int) int) []api.Call {
	var h []api.Call
	for i := range 8 {
		h = append(h, call(i%4, 0, says(i), 1+i%4+20*(i/4), 11+i%4+20*(i/4)))
	}
	return h
}

func TestManyOrders(t *testing.T) { // P2.4
	h := wide(func(int) int { return 0 })
	checkOrders(t, "two rounds", list(still(1)), h, found{[]int{0, 1, 2, 3, 4, 5, 6, 7}, 24 * 24, true})
	// The counter says 0 to 3 to two threads, then to the other two: that keeps threads, but not time.
	h = wide(func(i int) int { return i / 4 * 2 })
	h[1].Says, h[2].Says, h[3].Says = 1, 0, 1
	h[5].Says, h[6].Says, h[7].Says = 3, 2, 3
	checkOrders(t, "turned rounds", list(counter()), h, found{nil, 0, true})
	h = wide(func(i int) int { return 3 - i%4 })
	checkOrders(t, "rounds from behind", list(counter()), h, found{[]int{3, 2, 1, 0, 7, 6, 5, 4}, 1, true})
	for i := 4; i < 8; i++ {
		h[i].To, h[i].Says = 0, 0
	}
	// The four that are open may be done in any part and order: 1 + 4 + 12 + 24 + 24.
	checkOrders(t, "an open round", list(counter()), h, found{[]int{3, 2, 1, 0}, 65, true})
}

func TestOfBy(t *testing.T) { // P2.5
	h := []api.Call{call(1, 0, 3, 5, 0), on(call(0, 0, 1, 1, 3)), call(3, 1, 2, 2, 4), on(call(3, 0, 0, 6, 0))}
	h[0].Says = 0
	for object, want := range [][]api.Call{{h[0], h[2]}, {h[1], h[3]}} {
		if l, err := history.Of(h, object); !slices.Equal(l, want) || err != api.OK {
			t.Errorf("Of(%d): %v, %d", object, l, err)
		}
	}
	for thread, want := range [][]api.Call{{h[1]}, {h[0]}, nil, {h[2], h[3]}} {
		if l, err := history.By(h, thread); !slices.Equal(l, want) || err != api.OK {
			t.Errorf("By(%d): %v, %d", thread, l, err)
		}
	}
}

func TestUntil(t *testing.T) { // P2.5
	h := []api.Call{call(0, 1, 9, 7, 9), call(1, 0, 3, 2, 5), call(2, 1, 0, 4, 0), call(1, 2, 1, 6, 100)}
	opened := func(c api.Call) api.Call {
		c.To, c.Says = 0, 0
		return c
	}
	for _, c := range []struct {
		moment int
		want   []api.Call
	}{
		{0, nil},
		{1, nil},
		{2, []api.Call{opened(h[1])}},
		{4, []api.Call{opened(h[1]), h[2]}},
		{5, []api.Call{h[1], h[2]}},
		{6, []api.Call{h[1], h[2], opened(h[3])}},
		{8, []api.Call{opened(h[0]), h[1], h[2], opened(h[3])}},
		{9, []api.Call{h[0], h[1], h[2], opened(h[3])}},
		{99, []api.Call{h[0], h[1], h[2], opened(h[3])}},
		{100, h},
	} {
		if l, err := history.Until(h, c.moment); !slices.Equal(l, c.want) || err != api.OK {
			t.Errorf("Until(%d): %v, %d", c.moment, l, err)
		}
	}
}

func TestWidthAlone(t *testing.T) { // P2.6
	for i, c := range []struct {
		h     []api.Call
		width int
	}{
		{nil, 0},
		{[]api.Call{call(0, 0, 0, 1, 2)}, 1},
		{[]api.Call{call(0, 0, 0, 1, 0)}, 1},
		{[]api.Call{call(0, 0, 0, 1, 2), call(1, 0, 0, 3, 4)}, 1},
		{[]api.Call{call(0, 0, 0, 1, 3), call(1, 0, 0, 2, 4)}, 2},
		{[]api.Call{call(0, 0, 0, 1, 4), call(1, 0, 0, 2, 3)}, 2},
		{[]api.Call{call(0, 0, 0, 99, 0), call(1, 0, 0, 1, 98)}, 1},
		{[]api.Call{call(0, 0, 0, 1, 0), call(1, 0, 0, 98, 99)}, 2},
		{[]api.Call{call(0, 0, 0, 1, 0), on(call(1, 0, 0, 100, 0))}, 2},
		{[]api.Call{call(0, 0, 0, 1, 10), call(1, 0, 0, 2, 3), call(2, 0, 0, 4, 5), call(3, 0, 0, 6, 7)}, 2},
		{[]api.Call{call(0, 0, 0, 1, 5), call(1, 0, 0, 3, 8), call(2, 0, 0, 4, 9), call(0, 0, 0, 6, 7)}, 3},
		{wide(func(int) int { return 0 }), 4},
	} {
		if n, err := history.Width(c.h); n != c.width || err != api.OK {
			t.Errorf("Width of %d: %d, %d", i, n, err)
		}
		if is, err := history.Alone(c.h); is != (c.width <= 1) || err != api.OK {
			t.Errorf("Alone of %d: %v, %d", i, is, err)
		}
	}
}

func TestPlay(t *testing.T) { // P2.7
	for i, c := range []struct {
		specs []api.Spec
		word  []api.Call
		want  []api.Call
	}{
		{list(queue()), nil, nil},
		{list(queue()), []api.Call{{Thread: 2}, {Thread: 1}, {Op: 1}, {Op: 1}}, []api.Call{call(2, 0, 1, 1, 2), call(1, 0, 0, 3, 4), call(0, 1, 1, 5, 6), call(0, 1, 0, 7, 8)}},
		{list(counter(), flag()), []api.Call{{}, {Object: 1, Op: 1}, {Object: 1}, {Thread: 3}, {Object: 1, Op: 1}, {}, {}, {}},
			[]api.Call{call(0, 0, 0, 1, 2), on(call(0, 1, 0, 3, 4)), on(call(0, 0, 0, 5, 6)), call(3, 0, 1, 7, 8), on(call(0, 1, 1, 9, 10)), call(0, 0, 2, 11, 12), call(0, 0, 3, 13, 14), call(0, 0, 0, 15, 16)}},
	} {
		if l, err := history.Play(c.specs, c.word); !slices.Equal(l, c.want) || err != api.OK {
			t.Errorf("Play of %d: %v, %d", i, l, err)
		}
	}
}

func TestPlayErrors(t *testing.T) { // P2.1, P2.7
	for i, word := range [][]api.Call{
		make([]api.Call, 9), {{Thread: 4}}, {{Thread: -1}}, {{Object: 2}}, {{Object: -1}}, {{Op: -1}}, {{Op: 2}}, {{Object: 1, Op: 1}},
		{{Says: 1}}, {{From: 1}}, {{To: 2}}, {{Says: -1}}, {{From: 1, To: 2}}, {{}, {}, {To: 6}},
	} {
		if l, err := history.Play(list(queue(), counter()), word); len(l) != 0 || err != api.ErrHistory {
			t.Errorf("Play of %d: %v, %d", i, l, err)
		}
	}
	if l, err := history.Play(list(queue()), []api.Call{{Object: 1}}); len(l) != 0 || err != api.ErrHistory {
		t.Errorf("Play of an object too many: %v, %d", l, err)
	}
}

func TestLonger(t *testing.T) { // P2.8
	h := []api.Call{call(0, 0, 1, 10, 20), call(1, 1, 1, 13, 17), call(0, 1, 0, 30, 0), on(call(1, 0, 3, 25, 26))}
	for _, c := range []struct {
		call, from, to int
		err            api.Errno
	}{
		{0, 10, 20, api.OK},
		{0, 1, 20, api.OK},
		{0, 9, 29, api.OK},
		{1, 2, 24, api.OK},
		{1, 12, 17, api.OK},
		{3, 18, 100, api.OK},
		{3, 18, 101, api.ErrArg},
		{0, 0, 20, api.ErrArg},
		{0, -5, 20, api.ErrArg},
		{0, 11, 20, api.ErrArg},
		{0, 10, 19, api.ErrArg},
		{0, 10, 0, api.ErrArg},
		{0, 10, 30, api.ErrArg},
		{0, 10, 31, api.ErrArg},
		{0, 10, 26, api.ErrArg},
		{1, 10, 17, api.ErrArg},
		{1, 13, 20, api.ErrArg},
		{1, 13, 25, api.ErrArg},
		{3, 17, 26, api.ErrArg},
		{3, 16, 26, api.ErrArg},
		{2, 30, 0, api.ErrArg},
		{2, 29, 40, api.ErrArg},
		{-1, 1, 100, api.ErrArg},
		{4, 1, 100, api.ErrArg},
		{1 << 62, 1, 100, api.ErrArg},
	} {
		var want []api.Call
		if c.err == api.OK {
			want = slices.Clone(h)
			want[c.call].From, want[c.call].To = c.from, c.to
		}
		if l, err := history.Longer(h, c.call, c.from, c.to); !slices.Equal(l, want) || err != c.err {
			t.Errorf("Longer(%d, %d, %d): %v, %d", c.call, c.from, c.to, l, err)
		}
	}
}
