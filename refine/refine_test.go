package refine_test

import (
	"slices"
	"strings"
	"testing"

	"lineal/api"
	"lineal/refine"
)

// system makes a system of a text: its number of states, and for each step the digits From, Label and To.
func system(text string) api.System {
	words := strings.Fields(text)
	s := api.System{States: numbers(words[0])[0]}
	for _, word := range words[1:] {
		n := numbers(word)
		s.Steps = append(s.Steps, api.Step{From: n[0], Label: n[1], To: n[2]})
	}
	return s
}

// numbers makes a list of digits.
func numbers(digits string) []int {
	var list []int
	for _, d := range digits {
		list = append(list, int(d-'0'))
	}
	return list
}

// lists makes a list of lists of digits, which are parted by spaces; - is the empty one.
func lists(text string) [][]int {
	var list [][]int
	for _, digits := range strings.Fields(text) {
		list = append(list, numbers(strings.Trim(digits, "-")))
	}
	return list
}

// pairs makes a relation of pairs of digits, which are parted by spaces.
func pairs(text string) [][2]int {
	var list [][2]int
	for _, pair := range lists(text) {
		list = append(list, [2]int(pair))
	}
	return list
}

func sameLists(a, b [][]int) bool { return slices.EqualFunc(a, b, slices.Equal) }

func same(a, b api.System) bool { return a.States == b.States && slices.Equal(a.Steps, b.Steps) }

func isZero(s api.System) bool { return s.States == 0 && len(s.Steps) == 0 }

// Systems of the chapter's examples: the second one of each pair has more, or makes a choice earlier.
const (
	loop  = "2 011 120"
	more  = "2 011 120 130"
	late  = "3 011 122 132"
	early = "4 011 012 123 233"
)

// full is a system with as many states and steps as there may be.
func full() api.System {
	s := api.System{States: 6}
	for from := range 6 {
		for label := range 4 {
			s.Steps = append(s.Steps, api.Step{From: from, Label: label, To: from})
		}
	}
	return s
}

// with returns the system with more steps.
func with(s api.System, steps ...api.Step) api.System {
	return api.System{States: s.States, Steps: slices.Concat(s.Steps, steps)}
}

// invalid returns systems that are not valid, each for another reason.
func invalid() map[string]api.System {
	return map[string]api.System{
		"zero":                       {},
		"no states":                  {Steps: []api.Step{{}}},
		"less than no states":        {States: -1},
		"many less than no states":   {States: -1 << 63},
		"seven states":               {States: 7},
		"many states":                {States: 1<<63 - 1},
		"from no state":              system("2 211"),
		"from less than no state":    with(system("2"), api.Step{From: -1, Label: 1, To: 1}),
		"to no state":                system("2 011 012"),
		"to less than no state":      with(system("2"), api.Step{From: 0, Label: 1, To: -1}),
		"from a state far away":      with(system("2"), api.Step{From: 1 << 62, Label: 1}),
		"to a state far away":        with(system("2"), api.Step{Label: 1, To: -1 << 63}),
		"the label four":             system("2 041"),
		"less than no label":         with(system("2"), api.Step{Label: -1}),
		"a label far away":           with(system("2"), api.Step{Label: 1 << 62}),
		"a step twice":               system("2 011 011"),
		"a step twice, far apart":    system("2 011 021 031 111 011"),
		"a hidden step twice":        system("1 000 000"),
		"25 steps":                   with(full(), api.Step{From: 0, Label: 0, To: 1}),
		"a thousand steps":           {States: 6, Steps: make([]api.Step, 1000)},
		"24 steps, of them two same": {States: 6, Steps: append(full().Steps[:23:23], api.Step{})},
	}
}

func TestValid(t *testing.T) { // P5.2
	for _, text := range []string{"1", "2", "6", "1 000", "1 030", "6 535", "2 011 110 001 100", loop, more, late, early} {
		if !refine.Valid(system(text)) {
			t.Errorf("%s is not valid", text)
		}
	}
	if !refine.Valid(full()) || !refine.Valid(api.System{States: 1, Steps: []api.Step{}}) {
		t.Error("a system that is full, or one without steps, is not valid")
	}
	for kind, s := range invalid() {
		if refine.Valid(s) {
			t.Errorf("a system is valid: %s", kind)
		}
	}
}

func TestComes(t *testing.T) { // P5.2
	for _, c := range []struct {
		text, states string // the states by each label of each state, those of one state parted by |, the states by spaces
	}{
		{"1", "0|-|-|-"},
		{"1 000", "0|-|-|-"},
		{"1 020", "0|-|0|-"},
		{"2 001", "01|-|-|- 1|-|-|-"},
		{"2 001 100", "01|-|-|- 01|-|-|-"},
		{"3 011 112", "0|1|-|- 1|2|-|- 2|-|-|-"}, // one seen step, not two
		{"3 012 011 030", "0|12|-|0 1|-|-|- 2|-|-|-"},
		{"6 001 102 213 304 405", "012|345|-|- 12|345|-|- 2|345|-|- 345|-|-|- 45|-|-|- 5|-|-|-"},
		{"6 504 403 312 201 100", "0|-|-|- 01|-|-|- 012|-|-|- 3|012|-|- 34|012|-|- 345|012|-|-"},
		{"3 001 112 200", "01|012|-|- 1|012|-|- 012|012|-|-"}, // back to the front by hidden steps behind the seen one
		{"4 001 002 113 223", "012|3|3|- 1|3|-|- 2|-|3|- 3|-|-|-"},
		{"3 001 100 122 202", "01|-|2|- 01|-|2|- 2|-|-|-"},
	} {
		for state, row := range strings.Fields(c.states) {
			for label, want := range strings.Split(row, "|") {
				l, err := refine.Comes(system(c.text), state, label)
				if !slices.Equal(l, numbers(strings.Trim(want, "-"))) || err != api.OK {
					t.Errorf("Comes(%s, %d, %d): %v, %d", c.text, state, label, l, err)
				}
			}
		}
	}
}

func TestReachedAndStuck(t *testing.T) { // P5.2
	for _, c := range []struct{ text, reached, stuck string }{
		{"1", "0", "0"}, {"1 000", "0", ""}, {"1 010", "0", ""}, {"3", "0", "0"},
		{"2 110", "0", "0"}, {"2 001", "01", "1"}, {"2 031", "01", "1"}, {"2 001 101", "01", ""},
		{"4 002 210 113", "02", ""}, {"6 031 535", "01", "1"}, {"6 005 534 423 312 201", "012345", "1"},
		{"5 014 013 002", "0234", "234"}, {"5 014 013 002 300", "0234", "24"}, {"4 011 122 213", "0123", "3"},
		{loop, "01", ""}, {late, "012", "2"}, {early, "0123", "3"},
	} {
		if l, err := refine.Reached(system(c.text)); !slices.Equal(l, numbers(c.reached)) || err != api.OK {
			t.Errorf("Reached(%s): %v, %d", c.text, l, err)
		}
		if l, err := refine.Stuck(system(c.text)); !slices.Equal(l, numbers(c.stuck)) || err != api.OK {
			t.Errorf("Stuck(%s): %v, %d", c.text, l, err)
		}
	}
}

func TestIsTrace(t *testing.T) { // P5.3
	for _, c := range []struct {
		text, trace string
		is          bool
	}{
		{"1", "", true}, {"1", "1", false}, {"1 000", "", true}, {"1 000", "3", false}, {"1 030", "333", true}, {"1 030", "332", false},
		{loop, "1212", true}, {loop, "1211", false}, {loop, "2", false}, {loop, "13", false}, {more, "13121", true},
		{late, "12", true}, {late, "13", true}, {late, "123", false}, {early, "12", true}, {early, "13", true}, {early, "11", false},
		{"4 001 112 203 331", "131", true}, {"4 001 112 203 331", "13113", false}, {"4 001 112 203 331", "131313", true},
		{"2 110", "1", false}, // from the state 0 alone
	} {
		if is, err := refine.IsTrace(system(c.text), numbers(c.trace)); is != c.is || err != api.OK {
			t.Errorf("IsTrace(%s, %s): %v, %d", c.text, c.trace, is, err)
		}
	}
	for _, trace := range [][]int{{0}, {4}, {-1}, {1, 2, 0}, {1, 1, 4}, {3, 3, 0}, {1 << 62}, {-1 << 63}, slices.Repeat([]int{1}, 1001), slices.Repeat([]int{0}, 1000), make([]int, 5000)} {
		if is, err := refine.IsTrace(system(loop), trace); is || err != api.ErrArg {
			t.Errorf("IsTrace of %d labels: %v, %d", len(trace), is, err)
		}
	}
	long := slices.Repeat([]int{1, 2}, 500)
	if is, err := refine.IsTrace(system(loop), long); !is || err != api.OK {
		t.Errorf("IsTrace of 1000 labels: %v, %d", is, err)
	}
	long[999] = 3
	if is, err := refine.IsTrace(system(loop), long); is || err != api.OK {
		t.Errorf("IsTrace of 1000 labels: %v, %d", is, err)
	}
}

func TestTraces(t *testing.T) { // P5.3
	for _, c := range []struct {
		text   string
		most   int
		traces string
	}{
		{"1", 0, "-"}, {"1", 5, "-"}, {"1 000", 5, "-"}, {"2 110", 5, "-"}, {more, 0, "-"}, {more, 1, "- 1"},
		{"1 030 010 020", 1, "- 1 2 3"}, {"1 030 010", 2, "- 1 11 13 3 31 33"},
		{more, 3, "- 1 12 121 13 131"}, {loop, 5, "- 1 12 121 1212 12121"},
		{late, 5, "- 1 12 13"}, {early, 5, "- 1 12 13"}, {early, 2, "- 1 12 13"}, {early, 1, "- 1"},
		{"4 021 013 132 101", 4, "- 1 2 23"}, {"3 001 022 200 111", 2, "- 1 11 2 21 22"},
	} {
		if l, err := refine.Traces(system(c.text), c.most); !sameLists(l, lists(c.traces)) || err != api.OK {
			t.Errorf("Traces(%s, %d): %v, %d", c.text, c.most, l, err)
		}
	}
	if l, err := refine.Traces(full(), 5); len(l) != 364 || err != api.OK {
		t.Errorf("Traces of all labels: %d, %d", len(l), err)
	}
}

// followed is systems c and a with what is between them; "!" is no proof, or no trace of c alone.
func followed() []struct{ c, a, best, proof, shows string } {
	return []struct{ c, a, best, proof, shows string }{
		{loop, more, "00 11", "00 11", "!"},
		{more, loop, "", "!", "13"},
		{late, early, "20 21 22 23", "!", "!"},
		{early, late, "00 11 21 30 31 32", "00 11 21 32", "!"},
		{loop, loop, "00 11", "00 11", "!"},
		{"1", "1", "00", "00", "!"},
		{"1", "6 013", "00 01 02 03 04 05", "00", "!"},
		{"1 000", "1", "00", "00", "!"},
		{"1 010", "1", "", "!", "1"},
		{"2 001 110", "1 010", "00 10", "00 10", "!"},
		{"2 001 110", "2 001 110", "00 01 10 11", "00 10", "!"},
		{"2 011", "3 001 112", "00 01 10 11 12", "00 12", "!"},
		{"2 011", "3 012 011", "00 10 11 12", "00 11", "!"},
		{"3 011 122", "4 011 012 223", "00 12 20 21 22 23", "00 12 23", "!"},
		{"3 011", "2 011", "00 10 11 20 21", "00 11", "!"},
		{"3 220", "1", "00 10", "00", "!"},                                            // the state 2 is not reached
		{"2 011 120", "3 021 012 220", "00 12", "00 12", "!"},                         // a state of a that is reached, but not needed
		{"2 001 110", "3 001 112 200", "00 01 02 10 11 12", "00 10", "!"},             // a hidden step of c needs none of a
		{"2 011 101", "3 011 102 211", "00 01 02 10 11 12", "00 11", "!"},             // a hidden step that c does for ever
		{"3 011 112", "3 001 112 200", "00 01 02 10 11 12 20 21 22", "00 10 20", "!"}, // a is back in 0 behind each step
		{"2 011", "2 021", "10 11", "!", "1"},
		{"1 010 020 030", "1 020", "", "!", "1"},
		{"3 011 112 022", "2 011", "10 20 21", "!", "2"}, // shorter comes before less
		{"4 021 012 123 213", "2 011 021", "10 20 30 31", "!", "11"},
		{"4 021 012 123 213", "3 011 022 121", "10 11 20 30 31 32", "!", "11"},
		{"3 011 012 120", "3 011 022 120", "00 11 20 21 22", "00 11 21", "!"},
		{"1 010", "6 011 112 213 314 415", "", "!", "111111"},
		{"6 011 112 213 314 415", "1 010", "00 10 20 30 40 50", "00 10 20 30 40 50", "!"},
	}
}

func TestProofs(t *testing.T) { // P5.4, P5.5
	for _, f := range followed() {
		c, a := system(f.c), system(f.a)
		if l, err := refine.Best(c, a); !slices.Equal(l, pairs(f.best)) || err != api.OK {
			t.Errorf("Best(%s; %s): %v, %d", f.c, f.a, l, err)
		}
		if is, err := refine.Refines(c, a); is != (f.proof != "!") || err != api.OK {
			t.Errorf("Refines(%s; %s): %v, %d", f.c, f.a, is, err)
		}
		l, err := refine.Proof(c, a)
		if f.proof == "!" {
			if len(l) > 0 || err != api.ErrNone {
				t.Errorf("Proof(%s; %s): %v, %d", f.c, f.a, l, err)
			}
		} else if !slices.Equal(l, pairs(f.proof)) || err != api.OK {
			t.Errorf("Proof(%s; %s): %v, %d", f.c, f.a, l, err)
		}
		w, err := refine.Shows(c, a)
		if f.shows == "!" {
			if len(w) > 0 || err != api.ErrNone {
				t.Errorf("Shows(%s; %s): %v, %d", f.c, f.a, w, err)
			}
		} else if !slices.Equal(w, numbers(f.shows)) || err != api.OK {
			t.Errorf("Shows(%s; %s): %v, %d", f.c, f.a, w, err)
		}
	}
}

func TestIsProof(t *testing.T) { // P5.4
	for _, c := range []struct {
		c, a, relation string
		is             bool
	}{
		{loop, more, "", true}, {loop, more, "00 11", true}, {loop, more, "00", false}, {loop, more, "11", false}, {loop, more, "01", false}, {loop, more, "00 01 11", false},
		{more, loop, "", true}, {more, loop, "00 11", false},
		{late, early, "20 21 22 23", true}, {late, early, "21 23", true}, {late, early, "00 11 12 23", false}, {late, early, "20", true},
		{early, late, "00 11 21 32", true}, {early, late, "00 11 32", false}, {early, late, "11 32", true}, {early, late, "11 21 30", false},
		{"1 000", "1", "00", true}, {"2 001", "1", "00", false}, {"2 001", "1", "00 10", true}, {"2 001", "2 001", "00 11", true}, {"2 001", "2 001", "00 10", true}, {"2 001", "2", "00 11", false},
		{"2 011", "3 001 112", "00 12", true}, {"2 011", "3 001 112", "00 11", false}, {"2 011", "3 001 112", "02", false},
	} {
		if is, err := refine.IsProof(system(c.c), system(c.a), pairs(c.relation)); is != c.is || err != api.OK {
			t.Errorf("IsProof(%s; %s; %s): %v, %d", c.c, c.a, c.relation, is, err)
		}
	}
	// A relation of a system of three states and one of four.
	for _, bad := range []string{"00 00", "01 00", "10 00", "00 20 11", "30", "04", "00 24", "00 31"} {
		if is, err := refine.IsProof(system(late), system(early), pairs(bad)); is || err != api.ErrArg {
			t.Errorf("IsProof(%s): %v, %d", bad, is, err)
		}
	}
	for _, bad := range [][][2]int{{{-1, 0}}, {{0, -1}}, {{1 << 62, 0}}, {{0, -1 << 63}}, make([][2]int, 2), make([][2]int, 1000)} {
		if is, err := refine.IsProof(system(late), system(early), bad); is || err != api.ErrArg {
			t.Errorf("IsProof(%v): %v, %d", bad, is, err)
		}
	}
}

func TestPlain(t *testing.T) { // P5.5
	for text, want := range map[string]bool{
		"1": true, "6": true, loop: true, more: true, late: true, early: false, "1 010 020 030": true, "2 010 110": true, "2 011 110 020 121": true,
		"1 000": false, "2 001": false, "2 011 100": false, "3 011 012": false, "3 012 021 010": false, "3 010 110 222 221": false, // unreached
		"3 010 202": false,
	} {
		if is, err := refine.Plain(system(text)); is != want || err != api.OK {
			t.Errorf("Plain(%s): %v, %d", text, is, err)
		}
	}
}

func TestSeen(t *testing.T) { // P5.5
	for text, want := range map[string]string{
		"1": "1", "6": "1", "1 000": "1", "2 001": "1", "3 121": "1", "1 030 010": "1 010 030",
		loop: loop, more: more, late: late, early: late,
		"3 001 100 122 202":                 "2 021",
		"3 001 112 200":                     "2 011 111",
		"4 031 012 022":                     "3 011 021 032",
		"4 013 022 311":                     "4 011 022 113", // by length, then label by label
		"6 011 112 213 314 415":             "6 011 112 213 314 415",
		"6 015 534 423 312 221":             "6 011 132 223 314 425",
		"2 010 011 120":                     "2 011 111 120",
		"2 010 011 111 110":                 "2 011 111",
		"3 011 012 110 220":                 "2 011 110 120",
		"3 010 011 020 112 122":             "4 011 020 112 123 212 223 311 320",
		"2 001 100 010 020 030 111 121 131": "1 010 020 030",
		"5 001 010 112 124 304 314 002":     "2 010 021",
		// More than six states.
		"6 011 112 213 314 415 021 022": "!",
		"4 010 011 020 112 122 213 223": "!",
		"6 010 011 022 121 233 314 415": "!",
	} {
		s, err := refine.Seen(system(text))
		if want == "!" {
			if !isZero(s) || err != api.ErrLimit {
				t.Errorf("Seen(%s): %v, %d", text, s, err)
			}
		} else if !same(s, system(want)) || err != api.OK {
			t.Errorf("Seen(%s): %v, %d", text, s, err)
		}
	}
}

func TestHidden(t *testing.T) { // P5.6
	for _, c := range []struct {
		text  string
		label int
		want  string
	}{
		{"1", 1, "1"}, {"1", 3, "1"}, {"6", 2, "6"}, {more, 3, "2 011 120 100"}, {more, 1, "2 001 120 130"}, {loop, 3, loop},
		{"2 011 021 001", 1, "2 001 021"}, {"2 001 021 011", 1, "2 001 021"}, {"2 021 011 001", 1, "2 021 001"}, {"2 021 011 001", 2, "2 001 011"},
		{"2 010 001 011 110 100 030", 1, "2 000 001 100 030"}, {"1 000 010 020 030", 2, "1 000 010 030"},
	} {
		if s, err := refine.Hidden(system(c.text), c.label); !same(s, system(c.want)) || err != api.OK {
			t.Errorf("Hidden(%s, %d): %v, %d", c.text, c.label, s, err)
		}
	}
}

func TestComposed(t *testing.T) { // P5.6
	for _, c := range []struct{ r, s, want string }{
		{"", "", ""}, {"00", "", ""}, {"", "00", ""}, {"00", "00", "00"}, {"01", "10", "00"}, {"01", "01", ""}, {"55", "50 55", "50 55"},
		{"00 01", "04 13", "03 04"}, {"00 01", "02 12", "02"}, {"12 34", "00 23 24 45", "13 14 35"}, {"04 15 20", "00 43 50 55", "03 10 15 20"},
	} {
		if l, err := refine.Composed(pairs(c.r), pairs(c.s)); !slices.Equal(l, pairs(c.want)) || err != api.OK {
			t.Errorf("Composed(%s; %s): %v, %d", c.r, c.s, l, err)
		}
	}
	for _, bad := range [][][2]int{pairs("06"), pairs("60"), pairs("00 00"), pairs("01 00"), pairs("00 20 11"), {{-1, 0}}, {{0, -1}}, {{1 << 62, 0}}, {{0, -1 << 63}}, make([][2]int, 1000)} {
		for _, other := range [][][2]int{nil, pairs("00 11"), bad} {
			if l, err := refine.Composed(bad, other); len(l) > 0 || err != api.ErrArg {
				t.Errorf("Composed(%v, %v): %v, %d", bad, other, l, err)
			}
			if l, err := refine.Composed(other, bad); len(l) > 0 || err != api.ErrArg {
				t.Errorf("Composed(%v, %v): %v, %d", other, bad, l, err)
			}
		}
	}
}

func TestBoth(t *testing.T) { // P5.6
	for _, c := range []struct{ s, t, want string }{
		{"1", "1", "1"}, {"1", "6", "6"}, {"6", "1", "6"}, {"2", "3", "6"}, {"1", more, "2"}, {more, "1", "2"}, {"1 010 020 030", more, more}, {more, "1 030 020", "2 120 130"},
		{"2 011", "3 011 112", "6 014 115"}, {"3 011 112", "2 011", "6 013 215"}, {"2 011", "2 021", "4"},
		{"2 001", "3", "6 003 104 205"}, {"3", "2 001", "6 001 203 405"}, {"2 001", "3 102", "6 003 102 104 205 405"},
		{"1 000", "1 000", "1 000"}, {"2 000 101", "1 000", "2 000 101"}, {"2 100", "2 000", "4 000 200 202 301"},
		{"2 011 110 010", "2 110 011", "4 011 013 110 112 211 310"},
	} {
		if s, err := refine.Both(system(c.s), system(c.t)); !same(s, system(c.want)) || err != api.OK {
			t.Errorf("Both(%s; %s): %v, %d", c.s, c.t, s, err)
		}
	}
}

func TestBothOfMany(t *testing.T) { // P5.6
	for _, n := range [][2]int{{2, 4}, {4, 2}, {3, 3}, {1, 6}, {6, 1}, {2, 3}, {5, 2}, {6, 6}} {
		s, err := refine.Both(api.System{States: n[0]}, api.System{States: n[1]})
		if n[0]*n[1] > 6 {
			if !isZero(s) || err != api.ErrLimit {
				t.Errorf("Both of %v states: %v, %d", n, s, err)
			}
		} else if s.States != n[0]*n[1] || err != api.OK {
			t.Errorf("Both of %v states: %v, %d", n, s, err)
		}
	}
	// Hidden steps of both that lead back are once there: so 24 steps are left, but 25 if one of them leads on.
	all := system("1 000 010 020 030")
	for _, other := range []api.System{full(), all} {
		if s, err := refine.Both(all, other); !same(s, other) || err != api.OK {
			t.Errorf("Both: %v, %d", s, err)
		}
		if s, err := refine.Both(other, all); !same(s, other) || err != api.OK {
			t.Errorf("Both: %v, %d", s, err)
		}
	}
	on := full()
	on.Steps[0].To = 1
	if s, err := refine.Both(all, on); !isZero(s) || err != api.ErrLimit {
		t.Errorf("Both: %v, %d", s, err)
	}
	if s, err := refine.Both(on, all); !isZero(s) || err != api.ErrLimit {
		t.Errorf("Both: %v, %d", s, err)
	}
}

func TestWithout(t *testing.T) { // P5.6
	for _, c := range []struct {
		text string
		step int
		want string
	}{
		{more, 0, "2 120 130"}, {more, 1, "2 011 130"}, {more, 2, loop}, {"1 000", 0, "1"}, {"6 535", 0, "6"}, {"3 222 111 000", 1, "3 222 000"},
		{more, -1, "!"}, {more, 3, "!"}, {"1", 0, "!"}, {"1 000", 1, "!"}, {more, 1 << 62, "!"}, {more, -1 << 63, "!"},
	} {
		s, err := refine.Without(system(c.text), c.step)
		if c.want == "!" {
			if !isZero(s) || err != api.ErrArg {
				t.Errorf("Without(%s, %d): %v, %d", c.text, c.step, s, err)
			}
		} else if !same(s, system(c.want)) || err != api.OK {
			t.Errorf("Without(%s, %d): %v, %d", c.text, c.step, s, err)
		}
	}
}
