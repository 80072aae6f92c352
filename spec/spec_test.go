package spec_test

import (
	"slices"
	"testing"

	"lineal/api"
	"lineal/spec"
)

// flag returns the chapter's first example: set (0) and ask (1).
func flag() api.Spec {
	return api.Spec{States: 2, Ops: 2, Next: [][]int{{1, 0}, {1, 1}}, Says: [][]int{{0, 0}, {0, 1}}}
}

// place returns the chapter's second example, a queue of one place: put (0) and take (1).
func place() api.Spec {
	return api.Spec{States: 2, Ops: 2, Next: [][]int{{1, 0}, {1, 0}}, Says: [][]int{{1, 0}, {0, 1}}}
}

// ring returns a specification of one call that goes round and says what is listed.
func ring(says ...int) api.Spec {
	s := api.Spec{States: len(says), Ops: 1}
	for i, n := range says {
		s.Next = append(s.Next, []int{(i + 1) % len(says)})
		s.Says = append(s.Says, []int{n})
	}
	return s
}

// still returns a specification of n calls that do nothing and answer 0.
func still(states, ops int) api.Spec {
	s := api.Spec{States: states, Ops: ops}
	for i := range states {
		s.Next = append(s.Next, slices.Repeat([]int{i}, ops))
		s.Says = append(s.Says, make([]int, ops))
	}
	return s
}

// partly returns a specification whose state 1 is not reached; 3 is the same as 0, and 4, not reached either, as 2.
func partly() api.Spec {
	return api.Spec{
		States: 5, Ops: 2,
		Next: [][]int{{2, 3}, {1, 0}, {0, 2}, {2, 0}, {3, 4}},
		Says: [][]int{{1, 2}, {0, 0}, {3, 3}, {1, 2}, {3, 3}},
	}
}

// copied returns a copy that shares no memory.
func copied(s api.Spec) api.Spec {
	c := api.Spec{States: s.States, Ops: s.Ops}
	for _, row := range s.Next {
		c.Next = append(c.Next, slices.Clone(row))
	}
	for _, row := range s.Says {
		c.Says = append(c.Says, slices.Clone(row))
	}
	return c
}

func equal(a, b api.Spec) bool {
	rows := func(x, y [][]int) bool { return slices.EqualFunc(x, y, slices.Equal) }
	return a.States == b.States && a.Ops == b.Ops && rows(a.Next, b.Next) && rows(a.Says, b.Says)
}

// invalid returns specifications that are not valid, each for another reason.
func invalid() map[string]api.Spec {
	changed := func(s api.Spec, change func(*api.Spec)) api.Spec {
		change(&s)
		return s
	}
	return map[string]api.Spec{
		"zero":             {},
		"no states":        changed(flag(), func(s *api.Spec) { s.States, s.Next, s.Says = 0, nil, nil }),
		"no calls":         changed(still(2, 0), func(s *api.Spec) {}),
		"negative states":  changed(flag(), func(s *api.Spec) { s.States = -1 }),
		"negative calls":   changed(flag(), func(s *api.Spec) { s.Ops = -1 }),
		"nine states":      still(api.MaxStates+1, 1),
		"five calls":       still(1, api.MaxOps+1),
		"no lists":         {States: 1, Ops: 1},
		"no answers":       changed(flag(), func(s *api.Spec) { s.Says = nil }),
		"no next":          changed(flag(), func(s *api.Spec) { s.Next = nil }),
		"fewer next":       changed(flag(), func(s *api.Spec) { s.Next = s.Next[:1] }),
		"more next":        changed(flag(), func(s *api.Spec) { s.Next = append(s.Next, []int{0, 0}) }),
		"fewer answers":    changed(flag(), func(s *api.Spec) { s.Says = s.Says[:1] }),
		"more answers":     changed(flag(), func(s *api.Spec) { s.Says = append(s.Says, []int{0, 0}) }),
		"short next":       changed(flag(), func(s *api.Spec) { s.Next[1] = []int{0} }),
		"long next":        changed(flag(), func(s *api.Spec) { s.Next[1] = []int{0, 0, 0} }),
		"short answers":    changed(flag(), func(s *api.Spec) { s.Says[1] = []int{0} }),
		"long answers":     changed(flag(), func(s *api.Spec) { s.Says[1] = []int{0, 0, 0} }),
		"nil row":          changed(flag(), func(s *api.Spec) { s.Next[0] = nil }),
		"next is none":     changed(flag(), func(s *api.Spec) { s.Next[1][1] = 2 }),
		"next is negative": changed(flag(), func(s *api.Spec) { s.Next[0][1] = -1 }),
		"answer 6":         changed(flag(), func(s *api.Spec) { s.Says[1][1] = api.MaxSays + 1 }),
		"answer -1":        changed(flag(), func(s *api.Spec) { s.Says[1][0] = -1 }),
	}
}

func TestValid(t *testing.T) { // P1.2
	most := still(api.MaxStates, api.MaxOps)
	most.Says[7][3], most.Next[7][3] = api.MaxSays, 0
	for _, s := range []api.Spec{flag(), place(), partly(), still(1, 1), most, ring(5, 0)} {
		if !spec.Valid(s) {
			t.Errorf("Valid(%v) is false", s)
		}
	}
	for name, s := range invalid() {
		if spec.Valid(s) {
			t.Errorf("%s: Valid is true", name)
		}
	}
	longer := flag()
	longer.Next = append(longer.Next, []int{9, 9})[:2]
	longer.Says[0] = append(longer.Says[0], 9)[:2]
	if !spec.Valid(longer) {
		t.Error("Valid reads behind the end of a list")
	}
}

func TestRun(t *testing.T) { // P1.2
	for _, c := range []struct {
		s       api.Spec
		from    int
		word    []int
		answers []int
		to      int
	}{
		{flag(), 0, []int{1, 0, 1, 0}, []int{0, 0, 1, 0}, 1},
		{flag(), 1, []int{}, nil, 1},
		{place(), 0, []int{0, 0, 1, 1, 0}, []int{1, 0, 1, 0, 1}, 1},
		{place(), 1, nil, nil, 1},
		{ring(3, 1, 4), 2, []int{0, 0}, []int{4, 3}, 1},
		{ring(3, 1, 4), 1, make([]int, 20), []int{1, 4, 3, 1, 4, 3, 1, 4, 3, 1, 4, 3, 1, 4, 3, 1, 4, 3, 1, 4}, 0},
		{partly(), 1, []int{0, 0, 1, 1}, []int{0, 0, 0, 2}, 3},
	} {
		answers, to, err := spec.Run(c.s, c.from, c.word)
		if !slices.Equal(answers, c.answers) || to != c.to || err != api.OK {
			t.Errorf("Run(%d, %v): %v, %d, %d", c.from, c.word, answers, to, err)
		}
	}
}

func TestTells(t *testing.T) { // P1.2
	for _, c := range []struct {
		s    api.Spec
		a, b int
		word []int
		is   bool
	}{
		{flag(), 0, 1, nil, false},
		{flag(), 0, 1, []int{1}, true},
		{flag(), 1, 0, []int{1}, true},
		{flag(), 0, 1, []int{0, 1}, false},
		{flag(), 0, 1, []int{1, 0}, true},
		{flag(), 1, 1, []int{1, 0, 1}, false},
		{place(), 0, 1, []int{0}, true},
		{ring(0, 0, 0, 1), 0, 1, []int{0, 0}, false},
		{ring(0, 0, 0, 1), 0, 1, []int{0, 0, 0}, true},
		{ring(1, 2, 1, 2), 0, 2, make([]int, 20), false},
		{ring(1, 2, 1, 3), 0, 2, make([]int, 20), true},
	} {
		if is, err := spec.Tells(c.s, c.a, c.b, c.word); is != c.is || err != api.OK {
			t.Errorf("Tells(%d, %d, %v): %v, %d", c.a, c.b, c.word, is, err)
		}
	}
}

func TestSameWordClasses(t *testing.T) { // P1.3
	twice := api.Spec{ // two words of two calls tell 0 and 1 apart; the call 0 leads to them behind 1 only
		States: 4, Ops: 2,
		Next: [][]int{{0, 2}, {1, 3}, {2, 2}, {3, 3}},
		Says: [][]int{{0, 0}, {0, 0}, {1, 1}, {2, 2}},
	}
	for _, c := range []struct {
		s    api.Spec
		a, b int
		word []int
		err  api.Errno
	}{
		{flag(), 0, 1, []int{1}, api.OK},
		{flag(), 1, 0, []int{1}, api.OK},
		{flag(), 1, 1, nil, api.ErrNone},
		{place(), 0, 1, []int{0}, api.OK},
		{ring(1, 2, 1, 2), 0, 2, nil, api.ErrNone},
		{ring(1, 2, 1, 2), 1, 2, []int{0}, api.OK},
		{ring(1, 2, 1, 3), 0, 2, []int{0, 0}, api.OK},
		{ring(0, 0, 0, 0, 0, 0, 0, 1), 0, 1, make([]int, 7), api.OK},
		{twice, 0, 1, []int{1, 0}, api.OK},
		{partly(), 0, 3, nil, api.ErrNone},
		{partly(), 2, 4, nil, api.ErrNone},
		{partly(), 1, 2, []int{0}, api.OK},
		{still(8, 4), 0, 7, nil, api.ErrNone},
	} {
		is, err := spec.Same(c.s, c.a, c.b)
		if is != (c.err == api.ErrNone) || err != api.OK {
			t.Errorf("Same(%d, %d): %v, %d", c.a, c.b, is, err)
		}
		word, err := spec.Word(c.s, c.a, c.b)
		if !slices.Equal(word, c.word) || err != c.err {
			t.Errorf("Word(%d, %d): %v, %d", c.a, c.b, word, err)
		}
	}
	for _, c := range []struct {
		s    api.Spec
		want []int
	}{
		{flag(), []int{0, 1}},
		{ring(1, 2, 1, 2), []int{0, 1, 0, 1}},
		{ring(3), []int{0}},
		{still(8, 1), make([]int, 8)},
		{partly(), []int{0, 1, 2, 0, 2}},
		{ring(0, 0, 0, 0, 0, 0, 0, 1), []int{0, 1, 2, 3, 4, 5, 6, 7}},
	} {
		if l, err := spec.Classes(c.s); !slices.Equal(l, c.want) || err != api.OK {
			t.Errorf("Classes(%v): %v, %d", c.s, l, err)
		}
	}
}

func TestReachedWay(t *testing.T) { // P1.4
	back := api.Spec{States: 3, Ops: 2, Next: [][]int{{2, 2}, {1, 1}, {2, 1}}, Says: [][]int{{0, 0}, {0, 0}, {0, 0}}}
	for _, c := range []struct {
		s       api.Spec
		reached []int
		ways    [][]int
	}{
		{flag(), []int{0, 1}, [][]int{{}, {0}}},
		{back, []int{0, 1, 2}, [][]int{{}, {0, 1}, {0}}},
		{partly(), []int{0, 2, 3}, [][]int{{}, nil, {0}, {1}, nil}},
		{ring(0, 1, 2, 3, 4, 5, 0, 0), []int{0, 1, 2, 3, 4, 5, 6, 7}, [][]int{{}, {0}, {0, 0}, {0, 0, 0}, make([]int, 4), make([]int, 5), make([]int, 6), make([]int, 7)}},
		{still(3, 2), []int{0}, [][]int{{}, nil, nil}},
	} {
		if l, err := spec.Reached(c.s); !slices.Equal(l, c.reached) || err != api.OK {
			t.Errorf("Reached(%v): %v, %d", c.s, l, err)
		}
		for to, want := range c.ways {
			wanted := api.OK
			if want == nil {
				wanted = api.ErrNone
			}
			if way, err := spec.Way(c.s, to); !slices.Equal(way, want) || err != wanted {
				t.Errorf("Way(%v, %d): %v, %d", c.s, to, way, err)
			}
		}
	}
}

func TestLeast(t *testing.T) { // P1.4
	// 3 comes before 1, behind the call 0; 2 is not reached, but it is the same as 3, and the least of its class.
	turned := api.Spec{States: 4, Ops: 2, Next: [][]int{{3, 1}, {0, 0}, {1, 2}, {1, 3}}, Says: [][]int{{0, 0}, {1, 1}, {2, 2}, {2, 2}}}
	for _, c := range []struct{ s, want api.Spec }{
		{flag(), flag()},
		{place(), place()},
		{ring(1, 2, 1, 2), ring(1, 2)},
		{still(8, 4), still(1, 4)},
		{partly(), api.Spec{States: 2, Ops: 2, Next: [][]int{{1, 0}, {0, 1}}, Says: [][]int{{1, 2}, {3, 3}}}},
		{turned, api.Spec{States: 3, Ops: 2, Next: [][]int{{1, 2}, {2, 1}, {0, 0}}, Says: [][]int{{0, 0}, {2, 2}, {1, 1}}}},
	} {
		if s, err := spec.Least(c.s); !equal(s, c.want) || err != api.OK {
			t.Errorf("Least(%v): %v, %d", c.s, s, err)
		}
	}
}

func TestAlikeUnlike(t *testing.T) { // P1.5
	least, _ := spec.Least(partly())
	second := still(1, 2)
	second.Says[0][1] = 1
	for _, c := range []struct {
		s, t api.Spec
		word []int
		err  api.Errno
	}{
		{flag(), flag(), nil, api.ErrNone},
		{flag(), place(), []int{0}, api.OK},
		{partly(), least, nil, api.ErrNone},
		{ring(1, 2), ring(1, 2, 1, 2, 1, 2), nil, api.ErrNone},
		{ring(1, 2), ring(1, 2, 2), make([]int, 3), api.OK},
		{ring(0, 0, 0, 0, 0, 0, 1), ring(0, 0, 0, 0, 0, 0, 0, 1), make([]int, 7), api.OK},
		{ring(0, 0, 0), ring(0, 0, 0, 0), nil, api.ErrNone},
		{second, still(3, 2), []int{1}, api.OK},
		{flag(), still(1, 2), []int{0, 1}, api.OK},
		{flag(), ring(1), nil, api.ErrArg},
		{ring(1), flag(), nil, api.ErrArg},
	} {
		if is, err := spec.Alike(c.s, c.t); is != (c.err == api.ErrNone) || err != api.OK {
			t.Errorf("Alike(%v, %v): %v, %d", c.s, c.t, is, err)
		}
		if word, err := spec.Unlike(c.s, c.t); !slices.Equal(word, c.word) || err != c.err {
			t.Errorf("Unlike(%v, %v): %v, %d", c.s, c.t, word, err)
		}
	}
}

func TestCommuteOverwrites(t *testing.T) { // P1.6
	// The calls 0 and 1 lead to states with other numbers that are the same.
	twins := api.Spec{States: 5, Ops: 2, Next: [][]int{{1, 2}, {3, 3}, {4, 4}, {3, 3}, {4, 4}}, Says: [][]int{{0, 0}, {0, 0}, {0, 0}, {1, 1}, {1, 1}}}
	// The call 0 turns the answer of 1, but 1 does not turn that of 0; both lead back.
	turns := api.Spec{States: 2, Ops: 2, Next: [][]int{{1, 0}, {0, 1}}, Says: [][]int{{0, 2}, {0, 3}}}
	for _, c := range []struct {
		s                   api.Spec
		state, a, b         int
		commute, overwrites bool
	}{
		{flag(), 0, 0, 1, false, false},
		{flag(), 0, 1, 0, false, true},
		{flag(), 0, 0, 0, true, true},
		{flag(), 1, 0, 1, true, true},
		{flag(), 0, 1, 1, true, true},
		{place(), 0, 0, 0, false, false},
		{place(), 1, 1, 1, false, false},
		{place(), 0, 0, 1, false, false},
		{place(), 0, 1, 0, false, true},
		{twins, 0, 0, 1, true, false},
		{twins, 1, 0, 1, false, false},
		{twins, 3, 0, 1, true, true},
		{turns, 0, 0, 1, false, false},
		{turns, 0, 1, 0, false, true},
		{turns, 0, 0, 0, true, false},
		{ring(2, 2, 2), 0, 0, 0, true, true},
		{ring(2, 2, 3), 0, 0, 0, true, false},
	} {
		if is, err := spec.Commute(c.s, c.state, c.a, c.b); is != c.commute || err != api.OK {
			t.Errorf("Commute(%v, %d, %d, %d): %v, %d", c.s, c.state, c.a, c.b, is, err)
		}
		if is, err := spec.Overwrites(c.s, c.state, c.a, c.b); is != c.overwrites || err != api.OK {
			t.Errorf("Overwrites(%v, %d, %d, %d): %v, %d", c.s, c.state, c.a, c.b, is, err)
		}
	}
}

// bits returns a specification of three bits: 0 sets the first and says the second, 1 turns the third and says it, 2 sets the second and says the first.
func bits() api.Spec {
	s := api.Spec{States: 8, Ops: 3}
	for i := range 8 {
		s.Next = append(s.Next, []int{i | 1, i ^ 4, i | 2})
		s.Says = append(s.Says, []int{i >> 1 & 1, i >> 2, i & 1})
	}
	return s
}

func TestMeddlesReads(t *testing.T) { // P1.6
	// The state 1, whose calls meddle, is not reached from 0.
	hidden := api.Spec{States: 3, Ops: 1, Next: [][]int{{0}, {2}, {1}}, Says: [][]int{{0}, {1}, {2}}}
	// Words lead to 2 before they lead to 1; in 2 the call 1 meddles with itself, in 1 the call 2.
	late := api.Spec{
		States: 3, Ops: 3,
		Next: [][]int{{2, 0, 0}, {1, 1, 2}, {1, 1, 2}},
		Says: [][]int{{0, 0, 0}, {0, 0, 0}, {0, 1, 1}},
	}
	for _, c := range []struct {
		s           api.Spec
		state, a, b int
		err         api.Errno
	}{
		{flag(), 0, 0, 0, api.ErrNone},
		{place(), 0, 0, 0, api.OK},
		{still(8, 4), 0, 0, 0, api.ErrNone},
		{hidden, 0, 0, 0, api.ErrNone},
		{late, 1, 2, 2, api.OK},
		{bits(), 0, 0, 2, api.OK},
		{ring(0, 0, 1), 1, 0, 0, api.OK},
	} {
		if state, a, b, err := spec.Meddles(c.s); state != c.state || a != c.a || b != c.b || err != c.err {
			t.Errorf("Meddles(%v): %d, %d, %d, %d", c.s, state, a, b, err)
		}
	}
	for _, c := range []struct {
		s  api.Spec
		op int
		is bool
	}{
		{flag(), 0, false},
		{flag(), 1, true},
		{place(), 0, false},
		{place(), 1, false},
		{ring(2, 2), 0, true},
		{ring(2, 3), 0, false},
		{hidden, 0, true},
	} {
		if is, err := spec.Reads(c.s, c.op); is != c.is || err != api.OK {
			t.Errorf("Reads(%v, %d): %v, %d", c.s, c.op, is, err)
		}
	}
}

func TestBoth(t *testing.T) { // P1.7
	want := api.Spec{
		States: 4, Ops: 3,
		Next: [][]int{{2, 0, 1}, {3, 1, 0}, {2, 2, 3}, {3, 3, 2}},
		Says: [][]int{{0, 0, 3}, {0, 0, 4}, {0, 1, 3}, {0, 1, 4}},
	}
	if s, err := spec.Both(flag(), ring(3, 4)); !equal(s, want) || err != api.OK {
		t.Errorf("Both: %v, %d", s, err)
	}
	want = api.Spec{
		States: 6, Ops: 2,
		Next: [][]int{{3, 1}, {4, 2}, {5, 0}, {0, 4}, {1, 5}, {2, 3}},
		Says: [][]int{{1, 3}, {1, 4}, {1, 5}, {2, 3}, {2, 4}, {2, 5}},
	}
	if s, err := spec.Both(ring(1, 2), ring(3, 4, 5)); !equal(s, want) || err != api.OK {
		t.Errorf("Both: %v, %d", s, err)
	}
	for _, c := range []struct {
		states, ops, otherStates, otherOps int
		err                                api.Errno
	}{
		{4, 2, 2, 2, api.OK},
		{8, 1, 1, 3, api.OK},
		{1, 3, 8, 1, api.OK},
		{3, 1, 3, 1, api.ErrLimit},
		{2, 1, 5, 1, api.ErrLimit},
		{8, 1, 8, 1, api.ErrLimit},
		{1, 4, 1, 1, api.ErrLimit},
		{1, 2, 1, 3, api.ErrLimit},
	} {
		s, err := spec.Both(still(c.states, c.ops), still(c.otherStates, c.otherOps))
		want := api.Spec{}
		if c.err == api.OK {
			want = still(c.states*c.otherStates, c.ops+c.otherOps)
		}
		if !equal(s, want) || err != c.err {
			t.Errorf("Both of %v: %v, %d", c, s, err)
		}
	}
}

func TestBegun(t *testing.T) { // P1.7
	for _, c := range []struct {
		s     api.Spec
		state int
		want  api.Spec
	}{
		{ring(1, 2, 3), 2, api.Spec{States: 3, Ops: 1, Next: [][]int{{2}, {0}, {1}}, Says: [][]int{{3}, {2}, {1}}}},
		{ring(1, 2, 3), 1, api.Spec{States: 3, Ops: 1, Next: [][]int{{2}, {0}, {1}}, Says: [][]int{{2}, {1}, {3}}}},
		{flag(), 1, api.Spec{States: 2, Ops: 2, Next: [][]int{{0, 0}, {0, 1}}, Says: [][]int{{0, 1}, {0, 0}}}},
		{flag(), 0, flag()},
		{partly(), 0, partly()},
	} {
		if s, err := spec.Begun(c.s, c.state); !equal(s, c.want) || err != api.OK {
			t.Errorf("Begun(%v, %d): %v, %d", c.s, c.state, s, err)
		}
	}
}
