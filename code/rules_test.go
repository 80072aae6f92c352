package code_test

import (
	"slices"
	"testing"

	"lineal/api"
	"lineal/code"
)

// answer is what a call returns: whether everything beside the error is zero, and the error.
type answer struct {
	zero bool
	err  api.Errno
}

func isTrue(is bool, err api.Errno) answer         { return answer{!is, err} }
func number(n int, err api.Errno) answer           { return answer{n == 0, err} }
func listed[T any](list []T, err api.Errno) answer { return answer{len(list) == 0, err} }

// question is an argument of each kind that functions take.
type question struct {
	spec                   api.Spec
	code                   [][]api.Line
	use                    [][]int
	schedule, marks, word  []int
	steps, oneCell, others int
}

// answers returns the answers of all functions that have an error.
func (q question) answers() map[string]answer {
	return map[string]answer{
		"ValidUse":  isTrue(code.ValidUse(q.code, q.use)),
		"Run":       listed(code.Run(q.code, q.use, q.schedule)),
		"Cells":     listed(code.Cells(q.code, q.use, q.schedule)),
		"Left":      listed(code.Left(q.code, q.use, q.schedule)),
		"Schedules": number(code.Schedules(q.code, q.use, q.steps)),
		"Histories": listed(code.Histories(q.code, q.use, q.steps)),
		"Sound":     isTrue(code.Sound(q.spec, q.code, q.use, q.steps)),
		"Break":     listed(code.Break(q.spec, q.code, q.use, q.steps)),
		"Breaks":    isTrue(code.Breaks(q.spec, q.code, q.use, q.schedule)),
		"Marked":    isTrue(code.Marked(q.spec, q.code, q.use, q.marks)),
		"Order":     listed(code.Order(q.code, q.use, q.schedule, q.marks)),
		"Follows":   isTrue(code.Follows(q.spec, q.code, q.word)),
		"Ends":      isTrue(code.Ends(q.code, q.use)),
		"Swapped":   listed(code.Swapped(q.code, q.oneCell, q.others)),
	}
}

// fine returns arguments of which none is wrong, for code that breaks.
func fine() question {
	return question{
		spec: spec("10 10|21 21|22 22"), code: lines(hasty + "|" + hasty), use: use("0|1"),
		schedule: numbers("00110011"), marks: numbers("13"), word: numbers("01"), steps: 8, oneCell: 0, others: 1,
	}
}

// wrong returns arguments of which all but the code, the specification and the use are wrong.
func wrong() question {
	q := fine()
	q.schedule, q.marks, q.word, q.steps, q.oneCell, q.others = numbers("2"), nil, numbers("2"), 13, 3, -1
	return q
}

func TestFine(t *testing.T) {
	for name, a := range fine().answers() {
		want := name != "Sound" && name != "Marked" && name != "Left"
		if a.err != api.OK || a.zero == want {
			t.Errorf("%s: %v", name, a)
		}
	}
}

func TestErrCode(t *testing.T) { // P8.1
	for kind, c := range invalid() {
		for _, q := range []question{fine(), wrong(), {}} {
			for _, u := range [][][]int{q.use, nil} {
				q.code, q.use = c, u
				for name, a := range q.answers() {
					if !a.zero || a.err != api.ErrCode {
						t.Errorf("%s of %s: %v", name, kind, a)
					}
				}
			}
		}
	}
}

// noSpecs returns specifications that are not valid, or have not two calls.
func noSpecs() map[string]api.Spec {
	zero, says, states, next := api.Spec{}, spec("00 00"), spec("00 00|00 00"), spec("00 00")
	says.Says[0][1], states.States, next.Next[0][1] = 6, 1, 1
	nine := api.Spec{States: 9, Ops: 2, Next: slices.Repeat([][]int{{0, 0}}, 9), Says: slices.Repeat([][]int{{0, 0}}, 9)}
	return map[string]api.Spec{
		"zero": zero, "an answer of 6": says, "states that lie": states, "a state that is none": next, "nine states": nine,
		"one call": spec("00"), "three calls": spec("00 00 00"), "four calls": spec("00 00 00 00"),
	}
}

func TestErrSpec(t *testing.T) { // P8.1
	for kind, s := range noSpecs() {
		for _, q := range []question{fine(), wrong()} {
			for _, u := range [][][]int{q.use, nil, use("2")} {
				q.spec, q.use = s, u
				all := q.answers()
				for _, name := range []string{"Sound", "Break", "Breaks", "Marked", "Follows"} {
					if a := all[name]; !a.zero || a.err != api.ErrSpec {
						t.Errorf("%s of %s: %v", name, kind, a)
					}
				}
			}
		}
	}
}

func TestErrUse(t *testing.T) { // P8.1
	for kind, u := range noUses() {
		for i, q := range []question{fine(), wrong()} {
			q.use = u
			for name, a := range q.answers() {
				want := api.ErrUse
				switch {
				case name == "ValidUse":
					want = api.OK
				case i == 0 && (name == "Follows" || name == "Swapped"):
					continue
				case name == "Follows" || name == "Swapped": // which have no use
					want = api.ErrArg
				}
				if !a.zero || a.err != want {
					t.Errorf("%s of %s: %v", name, kind, a)
				}
			}
		}
	}
}

// checkArg checks that the functions with these names, and no others, have ErrArg.
func checkArg(t *testing.T, what any, q question, names ...string) {
	t.Helper()
	for name, a := range q.answers() {
		fails := slices.Contains(names, name)
		if fails != (a.err == api.ErrArg) || fails && !a.zero || !fails && a.err != api.OK {
			t.Errorf("%s of %v: %v", name, what, a)
		}
	}
}

func TestErrArg(t *testing.T) { // P8.1, P8.5, P8.6, P8.7
	checkArg(t, "nothing", fine())
	checkArg(t, "all", wrong(), "Run", "Cells", "Left", "Schedules", "Histories", "Sound", "Break", "Breaks", "Marked", "Order", "Follows", "Swapped")
	far := 1 << 62
	for _, schedule := range [][]int{{-1}, {2}, {far}, numbers("000011112"), numbers("00000"), numbers("000010000"), numbers("111101111"), numbers("000011110"), make([]int, 13), make([]int, 1000)} {
		q := fine()
		q.schedule = schedule
		checkArg(t, schedule, q, "Run", "Cells", "Left", "Breaks", "Order")
	}
	for _, steps := range []int{-1, 13, far, -1 << 63} {
		q := fine()
		q.steps = steps
		checkArg(t, steps, q, "Schedules", "Histories", "Sound", "Break")
	}
	for _, marks := range [][]int{nil, {0}, numbers("000"), numbers("40"), numbers("04"), {-1, 0}, {0, far}, make([]int, 1000)} {
		q := fine()
		q.marks = marks
		checkArg(t, marks, q, "Marked", "Order")
	}
	for _, word := range [][]int{numbers("0000"), numbers("2"), numbers("002"), {-1}, {0, far}, make([]int, 1000)} {
		q := fine()
		q.word = word
		checkArg(t, word, q, "Follows")
	}
	for _, cell := range []int{-1, 3, far, -1 << 63} {
		q := fine()
		q.oneCell = cell
		checkArg(t, cell, q, "Swapped")
		q.others = cell
		checkArg(t, cell, q, "Swapped")
		q.oneCell = 2
		checkArg(t, cell, q, "Swapped")
	}
}

// TestLongSchedules checks that a schedule has at most 12 threads, also where there are lines left.
func TestLongSchedules(t *testing.T) { // P8.1
	for length := range 20 {
		want := api.OK
		if length > api.MaxRun {
			want = api.ErrArg
		}
		if _, err := code.Run(lines(spin), use("0"), make([]int, length)); err != want {
			t.Errorf("Run of %d steps: %d", length, err)
		}
		if _, err := code.Schedules(lines(spin), use("0"), length); err != want {
			t.Errorf("Schedules of %d steps: %d", length, err)
		}
	}
}

func TestErrNone(t *testing.T) { // P8.1, P8.4, P8.5
	q := fine()
	q.steps = 7
	if a := q.answers()["Break"]; !a.zero || a.err != api.ErrNone {
		t.Errorf("Break: %v", a)
	}
	q.schedule = q.schedule[:7]
	if a := q.answers()["Order"]; !a.zero || a.err != api.ErrNone {
		t.Errorf("Order: %v", a)
	}
	q.marks = numbers("14")
	if a := q.answers()["Order"]; !a.zero || a.err != api.ErrArg {
		t.Errorf("Order with marks that are none: %v", a)
	}
}

// TestNothing checks that empty lists are as nil ones (R4).
func TestNothing(t *testing.T) {
	for _, empty := range [][]int{nil, {}, make([]int, 3)[:0]} {
		for _, u := range [][][]int{{empty}, {empty, empty}} {
			q := question{spec: spec("00"), code: lines("7000"), use: u, schedule: empty, word: empty, marks: []int{0}}
			for name, a := range q.answers() {
				want, zero := api.OK, false
				switch name {
				case "Run", "Left", "Breaks", "Order":
					zero = true
				case "Break":
					want, zero = api.ErrNone, true
				}
				if a.zero != zero || a.err != want {
					t.Errorf("%s of nothing: %v", name, a)
				}
			}
			if l, _ := code.Histories(q.code, u, 12); len(l) != 1 || len(l[0]) != 0 {
				t.Errorf("Histories of nothing: %v", l)
			}
		}
	}
}

// spoil writes over lists, up to their capacity.
func spoil[T any](with T, lists ...[]T) {
	for _, l := range lists {
		l = l[:cap(l)]
		for i := range l {
			l[i] = with
		}
	}
}

// apart checks that the lists of a result share no memory: each is what it should be when those before it are written over.
func apart[T comparable](t *testing.T, name string, with T, lists, want [][]T) {
	t.Helper()
	if len(lists) != len(want) {
		t.Fatalf("%s: %v", name, lists)
	}
	for i, l := range lists {
		if !slices.Equal(l, want[i]) {
			t.Fatalf("the list %d of %s: %v", i, name, l)
		}
		spoil(with, l)
	}
}

// TestArgumentsStay checks that arguments are neither changed nor kept, and that results are new memory (R4).
func TestArgumentsStay(t *testing.T) {
	all, asked := lines(hasty+" 9999|"+hasty+" 9999"), use("01|19")
	q := fine()
	q.code, q.use = [][]api.Line{all[0][:4], all[1][:4]}, [][]int{asked[0][:1], asked[1][:1]}
	schedule, marks := numbers("001100119"), numbers("139")
	q.schedule, q.marks = schedule[:8], marks[:2]
	for range 2 {
		q.answers()
		h, _ := code.Run(q.code, q.use, q.schedule)
		cells, _ := code.Cells(q.code, q.use, q.schedule)
		left, _ := code.Left(q.code, q.use, q.schedule[:5])
		first, _ := code.Break(q.spec, q.code, q.use, q.steps)
		order, _ := code.Order(q.code, q.use, q.schedule, q.marks)
		if !slices.Equal(h, list(call(0, 0, 0, 1, 12), call(1, 1, 0, 5, 16))) {
			t.Fatalf("Run: %v", h)
		}
		apart(t, "the lists", 9, list(cells, left, first, order), [][]int{numbers("100"), numbers("01"), numbers("00100111"), numbers("01")})
		histories, _ := code.Histories(q.code, q.use, 2)
		apart(t, "Histories", call(9, 9, 9, 9, 9), histories, [][]api.Call{
			{call(0, 0, 0, 1, 0)}, {call(0, 0, 0, 1, 0), call(1, 1, 0, 3, 0)},
			{call(1, 1, 0, 1, 0)}, {call(1, 1, 0, 1, 0), call(0, 0, 0, 3, 0)},
		})
		swapped, _ := code.Swapped(q.code, 0, 1)
		apart(t, "Swapped", line(9, 9, 9, 9), swapped, lines("1010 5201 2120 7000|1010 5201 2120 7000"))
		equal, _ := code.Swapped(q.code, 2, 2)
		apart(t, "Swapped", line(9, 9, 9, 9), equal, q.code)
		spoil(call(9, 9, 9, 9, 9), h)
		if !sameCode(all, lines(hasty+" 9999|"+hasty+" 9999")) || !slices.EqualFunc(asked, use("01|19"), slices.Equal) {
			t.Fatalf("code or its use is changed: %v, %v", all, asked)
		}
		if !slices.Equal(schedule, numbers("001100119")) || !slices.Equal(marks, numbers("139")) || !slices.Equal(q.word, numbers("01")) {
			t.Fatalf("a list is changed: %v, %v, %v", schedule, marks, q.word)
		}
		if !slices.EqualFunc(q.spec.Next, fine().spec.Next, slices.Equal) || !slices.EqualFunc(q.spec.Says, fine().spec.Says, slices.Equal) {
			t.Fatalf("the specification is changed: %v", q.spec)
		}
	}
}
