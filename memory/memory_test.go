package memory_test

import (
	"slices"
	"strings"
	"testing"

	"lineal/api"
	"lineal/memory"
)

const (
	strict = 1 + iota
	buffers
	loose
)

// program makes a program of a text: threads are parted by |, acts by spaces. x, y and z load a cell, x1 stores 1 into it, - is a fence.
func program(text string) [][]api.Act {
	var p [][]api.Act
	for thread := range strings.SplitSeq(text, "|") {
		var acts []api.Act
		for _, word := range strings.Fields(thread) {
			switch cell := strings.IndexByte("xyz", word[0]); {
			case word == "-":
				acts = append(acts, api.Act{Do: 3})
			case len(word) == 1:
				acts = append(acts, api.Act{Do: 1, Var: cell})
			default:
				acts = append(acts, api.Act{Do: 2, Var: cell, Value: int(word[1] - '0')})
			}
		}
		p = append(p, acts)
	}
	return p
}

// numbers makes a list of digits.
func numbers(digits string) []int {
	var list []int
	for _, d := range digits {
		list = append(list, int(d-'0'))
	}
	return list
}

// lists makes a list of lists of digits, which are parted by spaces.
func lists(text string) [][]int {
	var list [][]int
	for _, digits := range strings.Fields(text) {
		list = append(list, numbers(digits))
	}
	return list
}

func same(a, b [][]int) bool             { return slices.EqualFunc(a, b, slices.Equal) }
func samePrograms(a, b [][]api.Act) bool { return slices.EqualFunc(a, b, slices.Equal) }
func times(n int, a api.Act) []api.Act   { return slices.Repeat([]api.Act{a}, n) }
func alone(acts ...api.Act) [][]api.Act  { return [][]api.Act{acts} }
func copied(p [][]api.Act) (q [][]api.Act) {
	for _, acts := range p {
		q = append(q, slices.Clone(acts))
	}
	return q
}

// invalid returns programs that are not valid, each for another reason.
func invalid() map[string][][]api.Act {
	load, fence := api.Act{Do: 1}, api.Act{Do: 3}
	return map[string][][]api.Act{
		"nil":                       nil,
		"no thread":                 {},
		"four threads":              program("x|y|z|x"),
		"four empty threads":        make([][]api.Act, 4),
		"a thousand threads":        make([][]api.Act, 1000),
		"five acts":                 program("x x x x x"),
		"five acts in the end":      program("x|y|x - y - z1 z - z"),
		"eight fences":              {times(8, fence)},
		"eight acts with fences":    program("x - - - y - z -"),
		"a thousand acts":           {times(1000, load)},
		"nine acts":                 program("x x x|y y y|z z z"),
		"nine acts of two":          program("x x x x|y y y y|z"),
		"nine acts with fences":     program("x - x - x - x|y - y - y|z - z"),
		"no act":                    alone(api.Act{}),
		"Do 4":                      alone(api.Act{Do: 4}),
		"Do -1":                     alone(api.Act{Do: -1}),
		"Do far":                    alone(api.Act{Do: 1 << 62}),
		"load of the cell 3":        alone(api.Act{Do: 1, Var: 3}),
		"load of the cell -1":       alone(api.Act{Do: 1, Var: -1}),
		"load with a value":         alone(api.Act{Do: 1, Var: 1, Value: 1}),
		"store into the cell 3":     alone(api.Act{Do: 2, Var: 3, Value: 1}),
		"store into the cell -1":    alone(api.Act{Do: 2, Var: -1, Value: 1}),
		"store into a far cell":     alone(api.Act{Do: 2, Var: 1 << 62, Value: 1}),
		"store of 4":                alone(api.Act{Do: 2, Value: 4}),
		"store of -1":               alone(api.Act{Do: 2, Value: -1}),
		"store of much":             alone(api.Act{Do: 2, Value: 1<<62 + 1}),
		"fence of a cell":           alone(api.Act{Do: 3, Var: 1}),
		"fence with a value":        alone(api.Act{Do: 3, Value: 1}),
		"the last act is none":      {{load, fence}, {load, load, {Do: 3, Value: -1}}},
		"an act of 8 without fence": {times(4, load), times(4, load), {{Do: 9}}},
	}
}

func TestValid(t *testing.T) { // P4.2
	for _, text := range []string{
		"", "|", "||", "x", "x0", "z3", "-", "x y z x", "- x - y - z x", "- - - - - - -", "- - - - - - -|- - - - - - -|- - - - - - -",
		"x x x|y y y|z z", "x x x x|y y y y", "x x x x||y y y y", "x - x - x - x|y1 - y2 - y3 - y0|- - - - - - -", "x1 z2 y3 x0|z|z1 y1 x1",
	} {
		if !memory.Valid(program(text)) {
			t.Errorf("Valid(%s) is false", text)
		}
	}
	for name, p := range invalid() {
		if memory.Valid(p) {
			t.Errorf("%s: Valid(%v) is true", name, p)
		}
	}
	if p := [][]api.Act{times(9, api.Act{Do: 1})[:4], times(9, api.Act{Do: 9})[:0]}; !memory.Valid(p) {
		t.Errorf("lists are read behind their ends")
	}
}

// shown are programs with what they show on each kind of memory; "=" is what the kind before shows.
func shown() map[string][3]string {
	return map[string][3]string{
		// Example 1, without fences, with one and with two.
		"x1 y|y1 x":     {"01110 10110 11110", "00110 01110 10110 11110", "="},
		"x1 - y|y1 x":   {"01110 10110 11110", "00110 01110 10110 11110", "="},
		"x1 - y|y1 - x": {"01110 10110 11110", "=", "="},
		// Example 2, with the fences that it can have.
		"x1 y1|y x":     {"00110 01110 11110", "=", "00110 01110 10110 11110"},
		"x1 - y1|y x":   {"00110 01110 11110", "=", "00110 01110 10110 11110"},
		"x1 - y1|y - x": {"00110 01110 11110", "=", "="},
		// Two loads that are followed by stores.
		"x y1|y x1": {"00110 01110 10110", "=", "00110 01110 10110 11110"},
		// Stores alone: buffers empty from the front, loose memory keeps the order of no two cells.
		"x1 y2|y1 x2":   {"120 210 220", "=", "110 120 210 220"},
		"x1 x2|x3":      {"200 300", "=", "="},
		"x1 x2 x3":      {"300", "=", "="},
		"x1|x2|x3":      {"100 200 300", "=", "="},
		"x1 x0|x":       {"0000 1000", "=", "="},
		"x1 x|x2 x":     {"11100 12100 12200 22200", "=", "="},
		"x1|x x":        {"00100 01100 11100", "=", "="},
		"x1 y x2|y1 x":  {"01210 02210 10210 11210 12210", "00210 01210 02210 10210 11210 12210", "="},
		"z2 x z|x1":     {"02102 12102", "=", "="},
		"x1 y2 x y z":   {"", "", ""}, // five acts
		"x1 y2 x y":     {"12120", "=", "="},
		"x1|x y1|y x":   {"000110 001110 010110 011110 100110 101110 111110", "=", "000110 001110 010110 011110 100110 101110 110110 111110"},
		"":              {"000", "=", "="},
		"||":            {"000", "=", "="},
		"- - - - - - -": {"000", "=", "="},
		"-|x|- x0":      {"0000", "=", "="},
	}
}

func TestOutcomes(t *testing.T) { // P4.2
	for text, outcomes := range shown() {
		p, want := program(text), [][]int(nil)
		for i, list := range outcomes {
			if list == "" {
				if l, e := memory.Outcomes(p, i+1); len(l) > 0 || e != api.ErrProgram {
					t.Errorf("Outcomes(%s): %v, %d", text, l, e)
				}
				continue
			}
			if list != "=" {
				want = lists(list)
				slices.SortFunc(want, slices.Compare)
			}
			if l, e := memory.Outcomes(p, i+1); !same(l, want) || e != api.OK {
				t.Errorf("Outcomes(%s, %d): %v, %d, not %v", text, i+1, l, e, want)
			}
			for _, outcome := range want {
				if is, e := memory.Can(p, i+1, outcome); !is || e != api.OK {
					t.Errorf("Can(%s, %d, %v): %v, %d", text, i+1, outcome, is, e)
				}
			}
		}
		if bare, e := memory.Bare(p); outcomes[0] != "" && (bare != (outcomes[1] == "=" && outcomes[2] == "=") || e != api.OK) {
			t.Errorf("Bare(%s): %v, %d", text, bare, e)
		}
	}
}

func TestCan(t *testing.T) { // P4.2
	far := 1<<63 - 1
	for _, c := range []struct {
		text    string
		kind    int
		outcome []int
		can     bool
	}{
		{"x1 y|y1 x", strict, numbers("00110"), false}, {"x1 y|y1 x", buffers, numbers("00110"), true}, {"x1 y|y1 x", loose, numbers("00110"), true},
		{"x1 y1|y x", strict, numbers("10110"), false}, {"x1 y1|y x", buffers, numbers("10110"), false}, {"x1 y1|y x", loose, numbers("10110"), true},
		{"x1 x y|y1 y x", strict, numbers("1010110"), false}, {"x1 x y|y1 y x", buffers, numbers("1010110"), true}, {"x1 x y|y1 y x", buffers, numbers("0010110"), false},
		{"x", strict, numbers("0000"), true}, {"x", strict, numbers("000"), false}, {"x", strict, numbers("00000"), false}, {"x", strict, nil, false},
		{"x", loose, []int{}, false}, {"x", loose, []int{0, 0, 0, far}, false}, {"x", loose, []int{-1, 0, 0, 0}, false}, {"x", buffers, []int{256, 0, 0, 0}, false},
		{"x", loose, make([]int, 100000), false}, {"", strict, nil, false}, {"", strict, numbers("000"), true}, {"", loose, numbers("001"), false},
	} {
		if can, e := memory.Can(program(c.text), c.kind, c.outcome); can != c.can || e != api.OK {
			t.Errorf("Can(%s, %d, %v): %v, %d", c.text, c.kind, c.outcome[:min(len(c.outcome), 9)], can, e)
		}
	}
}

func TestMore(t *testing.T) { // P4.2
	for _, c := range []struct {
		text        string
		kind, other int
		want        string
	}{
		{"x1 y|y1 x", buffers, strict, "00110"}, {"x1 y|y1 x", loose, strict, "00110"}, {"x1 y|y1 x", loose, buffers, ""}, {"x1 y|y1 x", strict, loose, ""},
		{"x1 y1|y x", loose, buffers, "10110"}, {"x1 y1|y x", buffers, strict, ""}, {"x1 y1|y x", buffers, buffers, ""}, {"", loose, loose, ""},
		{"x1 y|y1 x|z", buffers, strict, "000110"}, {"x1 - y|y1 - x|z", loose, strict, ""}, {"x1 y2|y1 x2", loose, buffers, "110"},
	} {
		if l, e := memory.More(program(c.text), c.kind, c.other); !same(l, lists(c.want)) || e != api.OK {
			t.Errorf("More(%s, %d, %d): %v, %d", c.text, c.kind, c.other, l, e)
		}
	}
}

func TestRun(t *testing.T) { // P4.3
	for _, c := range []struct {
		text, schedule, outcome string
	}{
		{"x1 y|y1 x", "0011", "01110"}, {"x1 y|y1 x", "0101", "11110"}, {"x1 y|y1 x", "1001", "11110"}, {"x1 y|y1 x", "1100", "10110"},
		{"", "", "000"}, {"||", "", "000"}, {"- -|-", "010", "000"}, {"x1 - x|x2", "0010", "2200"}, {"x1 - x|x2", "0001", "1200"}, {"x1 - x|x2", "0100", "2200"}, {"|x1 x|", "11", "1100"},
		{"z3 z0|z1 z|z2", "21001", "0000"}, {"z3 z0|z1 z|z2", "01021", "2002"},
	} {
		if l, e := memory.Run(program(c.text), numbers(c.schedule)); !slices.Equal(l, numbers(c.outcome)) || e != api.OK {
			t.Errorf("Run(%s, %s): %v, %d", c.text, c.schedule, l, e)
		}
	}
	for _, s := range [][]int{nil, {0}, {0, 0, 1}, {0, 0, 0}, {0, 0, 0, 1}, {0, 1, 1, 1}, {0, 0, 1, 2}, {2}, {-1, 0, 0, 1}, {0, 0, 1, 1, 0}, {0, 0, 1, 1, -1}, {1 << 62}, {-1 << 63}, make([]int, 1000)} {
		if l, e := memory.Run(program("x1 -|y1 x"), s); len(l) > 0 || e != api.ErrArg {
			t.Errorf("Run of %v: %v, %d", s, l, e)
		}
	}
	if l, e := memory.Run(program("|"), []int{0}); len(l) > 0 || e != api.ErrArg {
		t.Errorf("Run of an empty thread: %v, %d", l, e)
	}
}

func TestSchedule(t *testing.T) { // P4.3
	far := 1<<63 - 1
	for _, c := range []struct {
		text     string
		outcome  []int
		schedule string
		err      api.Errno
	}{
		{"x1 y|y1 x", numbers("01110"), "0011", api.OK}, {"x1 y|y1 x", numbers("11110"), "0101", api.OK}, {"x1 y|y1 x", numbers("10110"), "1100", api.OK},
		{"x1 y|y1 x", numbers("00110"), "", api.ErrNone}, {"x1 y1|y x", numbers("10110"), "", api.ErrNone}, {"x1 y|y1 x", numbers("01111"), "", api.ErrNone},
		{"", numbers("000"), "", api.OK}, {"", numbers("010"), "", api.ErrNone}, {"", nil, "", api.ErrNone}, {"", numbers("0000"), "", api.ErrNone},
		{"- -|- x1|-", numbers("100"), "00112", api.OK}, {"x1 -|x2 -", numbers("100"), "1001", api.OK}, {"x1 -|x2 -", numbers("200"), "0011", api.OK},
		{"x1 - - x|x2", numbers("2200"), "00010", api.OK}, {"x1 - - x|x2", numbers("1100"), "10000", api.OK}, {"x1 - - x|x2", numbers("1200"), "00001", api.OK},
		{"x", []int{far, 0, 0, 0}, "", api.ErrNone}, {"x", []int{256, 0, 0, 0}, "", api.ErrNone}, {"x", []int{0, 0, -1, 0}, "", api.ErrNone}, {"x", make([]int, 1000), "", api.ErrNone},
	} {
		if l, e := memory.Schedule(program(c.text), c.outcome); !slices.Equal(l, numbers(c.schedule)) || e != c.err {
			t.Errorf("Schedule(%s, %v): %v, %d", c.text, c.outcome[:min(len(c.outcome), 9)], l, e)
		}
	}
}

// TestScheduleOfMany checks programs that have too many schedules to try each of them (R1).
func TestScheduleOfMany(t *testing.T) { // P4.3
	fences := "- - - - - - -|- - - - - - -|- - - - - - -"
	many := "x1 x2 - x3 - x -|x2 - x3 - - - -|x - x - - - -"
	first := "000000011111112222222"
	if l, e := memory.Schedule(program(fences), numbers("000")); !slices.Equal(l, numbers(first)) || e != api.OK {
		t.Errorf("Schedule of fences: %v, %d", l, e)
	}
	for text, outcome := range map[string]string{fences: "001", many: "300310"} {
		if l, e := memory.Schedule(program(text), numbers(outcome)); len(l) > 0 || e != api.ErrNone {
			t.Errorf("Schedule(%s, %s): %v, %d", text, outcome, l, e)
		}
	}
}

func TestSchedulesAndLoads(t *testing.T) { // P4.3, P4.4
	full := "- - - - - - -"
	for _, c := range []struct {
		text             string
		schedules, loads int
	}{
		{"", 1, 0}, {"||", 1, 0}, {"x1", 1, 0}, {"x|y", 2, 2}, {"x1 y|y1 x", 6, 2}, {"x1 - y|y1 x", 10, 2}, {"x|y|z", 6, 3}, {"x y|y1|- - z", 60, 3},
		{full, 1, 0}, {full + "|", 1, 0}, {full + "|" + full, 3432, 0}, {full + "|x|" + full, 51480, 1}, {full + "|" + full + "|" + full, 399072960, 0},
		{"x x x x|y y y y", 70, 8}, {"x - x - x - x|y - y - y - y|" + full, 399072960, 8},
	} {
		n, e := memory.Schedules(program(c.text))
		l, f := memory.Loads(program(c.text))
		if n != c.schedules || l != c.loads || e != api.OK || f != api.OK {
			t.Errorf("%s: Schedules: %d, %d, Loads: %d, %d", c.text, n, e, l, f)
		}
	}
}

func TestFenced(t *testing.T) { // P4.5
	for _, c := range []struct {
		text          string
		thread, place int
		want          string
	}{
		{"x1 y|y1", 0, 0, "- x1 y|y1"}, {"x1 y|y1", 0, 1, "x1 - y|y1"}, {"x1 y|y1", 0, 2, "x1 y -|y1"}, {"x1 y|y1", 1, 0, "x1 y|- y1"}, {"x1 y|y1", 1, 1, "x1 y|y1 -"},
		{"", 0, 0, "-"}, {"||x", 1, 0, "|-|x"}, {"x - x - - x", 0, 3, "x - x - - - x"}, {"x - x - - x", 0, 6, "x - x - - x -"}, {"x - - - - - -|", 1, 0, "x - - - - - -|-"},
		{"x1 y|y1", 0, 3, "!"}, {"x1 y|y1", 1, 2, "!"}, {"x1 y|y1", 0, -1, "!"}, {"x1 y|y1", -1, 0, "!"}, {"x1 y|y1", 2, 0, "!"}, {"x1 y|y1", 1 << 62, 0, "!"}, {"x1 y|y1", 0, 1 << 62, "!"},
		{"x1 y|y1", -1 << 63, -1 << 63, "!"}, {"x - x - - x -", 0, 0, "!"}, {"x - x - - x -", 0, 7, "!"}, {"|- - - - - - -", 1, 3, "!"}, {"", 0, 1, "!"},
	} {
		p, e := memory.Fenced(program(c.text), c.thread, c.place)
		if c.want == "!" {
			if len(p) > 0 || e != api.ErrArg {
				t.Errorf("Fenced(%s, %d, %d): %v, %d", c.text, c.thread, c.place, p, e)
			}
		} else if !samePrograms(p, program(c.want)) || e != api.OK {
			t.Errorf("Fenced(%s, %d, %d): %v, %d", c.text, c.thread, c.place, p, e)
		}
	}
}

func TestUnfencedAndAllFenced(t *testing.T) { // P4.5
	for _, c := range [][3]string{
		{"x1 y|y1 x", "x1 y|y1 x", "x1 - y|y1 - x"}, {"x1 - y|- y1 x -", "x1 y|y1 x", "x1 - y|y1 - x"}, {"", "", ""}, {"- - -||-", "||", "||"},
		{"- x - -|x - - - y", "x|x y", "x|x - y"}, {"x y z0 - x|y - - y2 - - y3", "x y z0 x|y y2 y3", "x - y - z0 - x|y - y2 - y3"}, {"- - - z - - -", "z", "z"},
	} {
		p, e := memory.Unfenced(program(c[0]))
		q, f := memory.AllFenced(program(c[0]))
		if !samePrograms(p, program(c[1])) || !samePrograms(q, program(c[2])) || e != api.OK || f != api.OK {
			t.Errorf("%s: Unfenced: %v, %d, AllFenced: %v, %d", c[0], p, e, q, f)
		}
	}
}

func TestNeeded(t *testing.T) { // P4.6
	for _, c := range []struct {
		text string
		kind int
		want [][2]int
	}{
		{"x1 - y|y1 - x", strict, nil}, {"x1 - y|y1 - x", buffers, [][2]int{{0, 1}, {1, 1}}}, {"x1 - y|y1 - x", loose, [][2]int{{0, 1}, {1, 1}}},
		{"x1 - y|y1 x", buffers, nil}, {"x1 - y|y1 x", loose, nil}, {"x1 - - y|y1 - x", loose, [][2]int{{1, 1}}}, {"- x1 - y|y1 - x -", loose, [][2]int{{0, 2}, {1, 1}}},
		{"x1 - y1|y - x", strict, nil}, {"x1 - y1|y - x", buffers, nil}, {"x1 - y1|y - x", loose, [][2]int{{0, 1}, {1, 1}}}, {"x1 - x|x2 - x", loose, nil},
		{"", loose, nil}, {"x1 y|y1 x", loose, nil}, {"- - - - - - -|-", buffers, nil}, {"x1 - y2|y1 - x2", loose, [][2]int{{0, 1}, {1, 1}}}, {"x1 - y2|y1 - x2", buffers, nil},
	} {
		if l, e := memory.Needed(program(c.text), c.kind); !slices.Equal(l, c.want) || e != api.OK {
			t.Errorf("Needed(%s, %d): %v, %d", c.text, c.kind, l, e)
		}
	}
}

func TestKindThatIsNone(t *testing.T) { // P4.1
	for _, kind := range []int{0, 4, -1, 1 << 62, -1 << 63} {
		p := program("x1 - y|y1 - x")
		for name, a := range map[string]answer{
			"Outcomes": listed(memory.Outcomes(p, kind)), "Can": isTrue(memory.Can(p, kind, numbers("01110"))), "Needed": listed(memory.Needed(p, kind)),
			"More": listed(memory.More(p, kind, strict)), "More of": listed(memory.More(p, loose, kind)), "Needed nothing": listed(memory.Needed(program("x"), kind)),
		} {
			if !a.zero || a.err != api.ErrArg {
				t.Errorf("%s of the kind %d: %v", name, kind, a)
			}
		}
	}
}

func TestRenamed(t *testing.T) { // P4.7
	for _, c := range []struct {
		text    string
		threads []int
		want    string
	}{
		{"x|y1|-", []int{0, 1, 2}, "x|y1|-"}, {"x|y1|-", []int{1, 2, 0}, "y1|-|x"}, {"x|y1|-", []int{2, 0, 1}, "-|x|y1"}, {"x|y1", []int{1, 0}, "y1|x"}, {"x", []int{0}, "x"}, {"x|", []int{1, 0}, "|x"},
		{"x|y1", nil, "!"}, {"x|y1", []int{0}, "!"}, {"x|y1", []int{0, 1, 2}, "!"}, {"x|y1", []int{0, 0}, "!"}, {"x|y1", []int{1, 2}, "!"}, {"x|y1", []int{-1, 0}, "!"}, {"x|y1", []int{0, 1, 0}, "!"},
		{"x|y1|", []int{0, 1, 3}, "!"}, {"x|y1|", []int{0, 1, 1}, "!"}, {"x|y1|", []int{1 << 62, -1 << 63, 0}, "!"}, {"x|y1", make([]int, 1000), "!"}, {"x", []int{1}, "!"},
	} {
		p, e := memory.Renamed(program(c.text), c.threads)
		if c.want == "!" {
			if len(p) > 0 || e != api.ErrArg {
				t.Errorf("Renamed(%s) of %d threads: %v, %d", c.text, len(c.threads), p, e)
			}
		} else if !samePrograms(p, program(c.want)) || e != api.OK {
			t.Errorf("Renamed(%s, %v): %v, %d", c.text, c.threads, p, e)
		}
	}
}

func TestSwapped(t *testing.T) { // P4.7
	for _, c := range []struct {
		text string
		a, b int
		want string
	}{
		{"x y1|z2 - x", 0, 1, "y x1|z2 - y"}, {"x y1|z2 - x", 1, 0, "y x1|z2 - y"}, {"x y1|z2 - x", 0, 2, "z y1|x2 - z"}, {"x y1|z2 - x", 2, 1, "x z1|y2 - x"}, {"x y1|z2 - x", 1, 1, "x y1|z2 - x"},
		{"- - -", 0, 2, "- - -"}, {"", 0, 1, ""}, {"y", 0, 2, "y"},
		{"x", -1, 0, "!"}, {"x", 0, -1, "!"}, {"x", 3, 0, "!"}, {"x", 0, 3, "!"}, {"x", 3, 3, "!"}, {"", 1 << 62, 1 << 62, "!"}, {"x", -1 << 63, 1, "!"},
	} {
		p, e := memory.Swapped(program(c.text), c.a, c.b)
		if c.want == "!" {
			if len(p) > 0 || e != api.ErrArg {
				t.Errorf("Swapped(%s, %d, %d): %v, %d", c.text, c.a, c.b, p, e)
			}
		} else if !samePrograms(p, program(c.want)) || e != api.OK {
			t.Errorf("Swapped(%s, %d, %d): %v, %d", c.text, c.a, c.b, p, e)
		}
	}
}

func TestRaces(t *testing.T) { // P4.7
	for text, want := range map[string]bool{
		"x1 y|y1 x": true, "x|x": false, "x1|x": true, "x|x1": true, "x1|x2": true, "x1|x1": true, "x1 x|": false, "|x1 x": false, "||z3": false, "x1|y1|z1": false, "x1|y1|x": true, "x|y|y0": true, "x1|x1|y": true,
		"": false, "-|-|-": false, "x1|-": false, "- x1|- y1|- -": false, "x x x|x x|x x": false, "z1 z z|y": false, "y1 x|y1 z": true, "x y1|x y": true, "x1 y|z1 y|y z": true,
	} {
		if is, e := memory.Races(program(text)); is != want || e != api.OK {
			t.Errorf("Races(%s): %v, %d", text, is, e)
		}
	}
}
