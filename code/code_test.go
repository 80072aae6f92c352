package code_test

import (
	"slices"
	"strings"
	"testing"

	"lineal/api"
	"lineal/code"
)

// Codes with one call. The counter is that of the chapter's example 1; the hasty one, of example 2, writes without looking again.
const (
	counter = "1000 5201 3002 6300 7000"
	hasty   = "1000 5201 2020 7000"
	spin    = "6000 7000"
)

// lines makes code of a text: calls are parted by |, lines by spaces. A line is the digits of Do, A, B and C.
func lines(text string) [][]api.Line {
	var c [][]api.Line
	for part := range strings.SplitSeq(text, "|") {
		var call []api.Line
		for _, word := range strings.Fields(part) {
			n := numbers(word)
			call = append(call, api.Line{Do: n[0], A: n[1], B: n[2], C: n[3]})
		}
		c = append(c, call)
	}
	return c
}

// numbers makes a list of digits.
func numbers(digits string) []int {
	var list []int
	for _, d := range digits {
		list = append(list, int(d-'0'))
	}
	return list
}

// use makes a use of a text: threads are parted by |, each is the digits of its calls.
func use(text string) [][]int {
	var list [][]int
	for digits := range strings.SplitSeq(text, "|") {
		list = append(list, numbers(digits))
	}
	return list
}

// spec makes a specification of a text: states are parted by |, calls by spaces. A call is the digits of where it leads and of its answer.
func spec(text string) api.Spec {
	var s api.Spec
	for part := range strings.SplitSeq(text, "|") {
		var next, says []int
		for _, word := range strings.Fields(part) {
			n := numbers(word)
			next, says = append(next, n[0]), append(says, n[1])
		}
		s.Next, s.Says = append(s.Next, next), append(s.Says, says)
	}
	s.States, s.Ops = len(s.Next), len(s.Next[0])
	return s
}

// counts is the specification that answers 0, 1, 2, .., 5, 5.
const counts = "10|21|32|43|54|55"

// call returns a call of a history.
func call(thread, op, says, from, to int) api.Call {
	return api.Call{Thread: thread, Op: op, Says: says, From: from, To: to}
}

func sameCode(a, b [][]api.Line) bool    { return slices.EqualFunc(a, b, slices.Equal) }
func sameRuns(a, b [][]api.Call) bool    { return slices.EqualFunc(a, b, slices.Equal) }
func of(l ...api.Line) [][]api.Line      { return [][]api.Line{l} }
func times(n int, l api.Line) []api.Line { return slices.Repeat([]api.Line{l}, n) }
func line(do, a, b, c int) api.Line      { return api.Line{Do: do, A: a, B: b, C: c} }
func ending(l api.Line) [][]api.Line     { return of(l, line(7, 0, 0, 0)) }
func calls(n int) [][]api.Line           { return slices.Repeat(of(line(7, 0, 0, 0)), n) }
func isIn(n, end int) bool               { return 0 <= n && n < end }
func list[T any](l ...T) []T             { return l }

// invalid returns code that is not valid, each for another reason.
func invalid() map[string][][]api.Line {
	end, far := line(7, 0, 0, 0), 1<<62
	return map[string][][]api.Line{
		"nil":                    nil,
		"no call":                {},
		"five calls":             calls(5),
		"a thousand calls":       calls(1000),
		"an empty call":          {nil},
		"an empty second call":   {{end}, {}},
		"an empty last call":     append(calls(3), nil),
		"nine lines":             {times(9, end)},
		"nine lines of the last": append(calls(3), times(9, end)),
		"a thousand lines":       {times(1000, end)},
		"it reads at last":       lines("1000"),
		"it writes at last":      lines("7000 2000"),
		"it swaps at last":       lines("7000 3000"),
		"it sets at last":        lines("7000|7000 4000"),
		"it adds at last":        lines("7000 5000"),
		"it jumps at last":       lines("7000 6000"),
		"no line":                ending(line(0, 0, 0, 0)),
		"no line at last":        of(line(7, 0, 0, 0), line(0, 0, 0, 0)),
		"Do 8":                   ending(line(8, 0, 0, 0)),
		"Do -1":                  ending(line(-1, 0, 0, 0)),
		"Do far":                 ending(line(far, 0, 0, 0)),
		"reads into 4":           ending(line(1, 4, 0, 0)),
		"reads the cell 3":       ending(line(1, 3, 3, 0)),
		"reads and C":            ending(line(1, 0, 0, 1)),
		"writes the cell 3":      ending(line(2, 3, 0, 0)),
		"writes the cell -1":     ending(line(2, -1, 0, 0)),
		"writes register 4":      ending(line(2, 0, 4, 0)),
		"writes and C":           ending(line(2, 0, 0, 1)),
		"swaps the cell 3":       ending(line(3, 3, 0, 0)),
		"swaps from 4":           ending(line(3, 0, 4, 0)),
		"swaps to 4":             ending(line(3, 0, 0, 4)),
		"swaps to -1":            ending(line(3, 0, 0, -1)),
		"sets 10":                ending(line(4, 0, 10, 0)),
		"sets -1":                ending(line(4, 0, -1, 0)),
		"sets much":              ending(line(4, 0, far, 0)),
		"sets register 4":        ending(line(4, 4, 0, 0)),
		"sets and C":             ending(line(4, 0, 0, 9)),
		"adds to 4":              ending(line(5, 4, 0, 0)),
		"adds 4":                 ending(line(5, 0, 4, 0)),
		"adds to -1":             ending(line(5, -1, 0, 0)),
		"adds far ones":          ending(line(5, 0, far, -far)),
		"jumps behind":           ending(line(6, 0, 2, 0)),
		"jumps before":           ending(line(6, 0, -1, 0)),
		"jumps far":              ending(line(6, 0, far, 0)),
		"jumps by 4":             ending(line(6, 4, 0, 0)),
		"jumps and C":            ending(line(6, 0, 0, 1)),
		"jumps into another one": {{line(6, 0, 1, 0), end}, {end}, {line(6, 0, 2, 0), end}},
		"returns 4":              of(line(7, 4, 0, 0)),
		"returns -1":             of(line(7, -1, 0, 0)),
		"returns and B":          of(line(7, 0, 1, 0)),
		"returns and C":          of(line(7, 0, 0, -1)),
		"the last is none":       {{end}, {end}, {end}, {line(1, 0, 0, 0), end, line(7, 0, 0, 1)}},
	}
}

func TestValid(t *testing.T) { // P8.2
	for _, text := range []string{
		"7000", "7300", "7000|7000|7000|7000", counter, hasty, spin, "6070 6010 6020 6030 6040 6050 6060 7000", "7000 7100 7000", "1320 2230 3233 4390 5333 6350 7300",
	} {
		if !code.Valid(lines(text)) {
			t.Errorf("Valid(%s) is false", text)
		}
	}
	for name, c := range invalid() {
		if code.Valid(c) {
			t.Errorf("%s: Valid(%v) is true", name, c)
		}
	}
	long := lines("7000 7000 9999 9999")
	if c := append(calls(3), long[0][:2], nil)[:4]; !code.Valid(c) {
		t.Errorf("lists are read behind their ends")
	}
}

// TestLimits goes over all lines with small numbers.
func TestLimits(t *testing.T) { // P8.2
	// The ends of A, B and C for each Do, in a call of three lines.
	ends := [][3]int{1: {4, 3, 1}, 2: {3, 4, 1}, 3: {3, 4, 4}, 4: {4, 10, 1}, 5: {4, 4, 4}, 6: {4, 3, 1}, 7: {4, 1, 1}}
	for do := -2; do <= 10; do++ {
		var end [3]int
		if isIn(do, len(ends)) {
			end = ends[do]
		}
		for n := range 14 * 14 * 14 {
			l := line(do, n%14-2, n/14%14-2, n/14/14-2)
			want := isIn(l.A, end[0]) && isIn(l.B, end[1]) && isIn(l.C, end[2])
			if is := code.Valid(of(line(7, 1, 0, 0), l, line(7, 0, 0, 0))); is != want {
				t.Fatalf("Valid of %v: %v", l, is)
			}
			last := [][]api.Line{{line(7, 0, 0, 0)}, {line(1, 0, 0, 0), line(1, 0, 0, 0), l}}
			if is := code.Valid(last); is != (want && do == 7) {
				t.Fatalf("Valid of %v at last: %v", l, is)
			}
		}
	}
}

// noUses returns lists that are no uses of code with two calls.
func noUses() map[string][][]int {
	return map[string][][]int{
		"nil":                nil,
		"no thread":          {},
		"three threads":      use("0|1|0"),
		"three empty ones":   make([][]int, 3),
		"a thousand threads": make([][]int, 1000),
		"four calls":         use("0101"),
		"four at last":       use("|0000"),
		"a thousand calls":   {make([]int, 1000)},
		"call 2":             use("012"),
		"call 2 of the last": use("0|12"),
		"call -1":            {{0, -1}},
		"a far call":         {{1}, {1 << 62}},
	}
}

func TestValidUse(t *testing.T) { // P8.2
	for _, text := range []string{"", "|", "0", "1", "|0", "010|111", "111", "00|"} {
		if is, err := code.ValidUse(lines("7000|7000"), use(text)); !is || err != api.OK {
			t.Errorf("ValidUse(%s): %v, %d", text, is, err)
		}
	}
	for name, u := range noUses() {
		if is, err := code.ValidUse(lines("7000|7000"), u); is || err != api.OK {
			t.Errorf("%s: ValidUse(%v): %v, %d", name, u, is, err)
		}
	}
	long := [][]int{numbers("01199")[:3], numbers("9")[:0], numbers("9")}
	if is, _ := code.ValidUse(lines("7000|7000"), long[:2]); !is {
		t.Errorf("lists are read behind their ends")
	}
	if is, _ := code.ValidUse(calls(4), use("321|03")); !is {
		t.Errorf("ValidUse of four calls is false")
	}
}

// TestWhatLinesDo has one thread alone, which takes so many steps.
func TestWhatLinesDo(t *testing.T) { // P8.2
	for _, c := range []struct {
		text, word  string
		steps       int
		says, cells string
	}{
		// Registers at first.
		{"7000", "0", 1, "0", "000"}, {"7100", "0", 1, "1", "000"}, {"7200", "0", 1, "0", "000"}, {"7300", "0", 1, "0", "000"},
		// Sets, and adds modulo 10.
		{"4090 7000", "0", 2, "9", "000"}, {"4350 7300", "0", 2, "5", "000"}, {"4100 7100", "0", 2, "0", "000"},
		{"4070 4280 5302 7300", "0", 4, "5", "000"}, {"4090 5001 7000", "0", 3, "0", "000"}, {"4090 5000 7000", "0", 3, "8", "000"}, {"5111 5111 5111 7100", "0", 4, "8", "000"},
		{"4040 5301 7300", "0", 3, "5", "000"}, {"4040 5301 7000", "0", 3, "4", "000"},
		// Reads and writes.
		{"2010 7000", "0", 2, "0", "100"}, {"2210 1020 7000", "0", 3, "1", "001"}, {"4060 2100 4000 1310 7300", "0", 5, "6", "060"}, {"1100 7100", "0", 2, "0", "000"},
		// Swaps that fit, and that do not.
		{"3001 7300", "0", 2, "1", "100"}, {"3011 7300", "0", 2, "0", "000"}, {"4350 3010 7300", "0", 3, "0", "000"}, {"3223 7300", "0", 2, "1", "000"},
		{"4340 3103 7300", "0", 3, "1", "040"}, {"4340 3131 7300", "0", 3, "0", "000"}, {"2010 3012 7300", "0", 3, "1", "000"}, {"3001 3001 7300", "0", 3, "0", "100"},
		{"3031 7300", "0", 2, "1", "100"}, {"3101 7000", "0", 2, "0", "010"},
		// Jumps, if the register is 0.
		{"6020 4050 7000", "0", 2, "0", "000"}, {"6120 4050 7000", "0", 3, "5", "000"}, {"6030 4050 7000 7100", "0", 2, "1", "000"},
		{"6330 4010 7000 4310 4060 6010 7000", "0", 5, "6", "000"}, {"4010 7000 7300", "0", 2, "1", "000"},
		// A loop: a register goes from 7 to 10, which is 0.
		{"4070 5001 6040 6210 7000", "0", 10, "0", "000"},
		// Calls begin with registers as at first, and find the cells as they are.
		{"4060 4260 4360 4160 2010 7000|2100 2120 2130 7100", "01", 10, "61", "600"},
		{"4230 4340 4150 7000|5023 7000", "01", 6, "00", "000"}, {hasty, "000", 12, "012", "300"}, {counter, "00", 10, "01", "200"},
		{"3001 7300", "000", 6, "100", "100"}, {"7000|7100", "101", 3, "101", "000"}, {"7000|7100|4020 7000|4030 7000", "321", 5, "321", "000"},
		// Nothing, and what is not at its end.
		{"7000", "", 0, "", "000"}, {hasty, "000", 11, "010", "300"}, {hasty, "000", 4, "0", "100"}, {hasty, "000", 5, "00", "100"}, {spin, "0", 12, "0", "000"},
	} {
		schedule := make([]int, c.steps)
		h, err := code.Run(lines(c.text), use(c.word), schedule)
		cells, e := code.Cells(lines(c.text), use(c.word), schedule)
		var says []int
		for i, call := range h {
			says = append(says, call.Says)
			if call.Op != int(c.word[i]-'0') || call.Thread != 0 || call.Object != 0 {
				t.Errorf("Run(%s): %v", c.text, h)
			}
		}
		if !slices.Equal(says, numbers(c.says)) || !slices.Equal(cells, numbers(c.cells)) || err != api.OK || e != api.OK {
			t.Errorf("Run(%s, %s, %d): %v, Cells: %v, %d, %d", c.text, c.word, c.steps, h, cells, err, e)
		}
	}
}

func TestRun(t *testing.T) { // P8.2
	both := "7000|4030 7000"
	for _, c := range []struct {
		text, use, schedule string
		h                   []api.Call
		cells, left         string
	}{
		{counter, "0|0", "", nil, "000", "01"},
		{counter, "|", "", nil, "000", ""},
		{counter, "", "", nil, "000", ""},
		{counter, "|0", "", nil, "000", "1"},
		{counter, "0|", "", nil, "000", "0"},
		{counter, "0", "0", list(call(0, 0, 0, 1, 0)), "000", "0"},
		{counter, "|0", "1", list(call(1, 0, 0, 1, 0)), "000", "1"},
		{counter, "0|0", "01", list(call(0, 0, 0, 1, 0), call(1, 0, 0, 3, 0)), "000", "01"},
		{counter, "0|0", "10", list(call(1, 0, 0, 1, 0), call(0, 0, 0, 3, 0)), "000", "01"},
		{counter, "0|0", "1110", list(call(1, 0, 0, 1, 0), call(0, 0, 0, 7, 0)), "100", "01"},
		{counter, "0|0", "0111110", list(call(0, 0, 0, 1, 0), call(1, 0, 0, 3, 12)), "100", "0"},
		// The swap of thread 0 does not fit, so it jumps.
		{counter, "0|0", "001111100000", list(call(0, 0, 0, 1, 0), call(1, 0, 0, 5, 14)), "200", "0"},
		{counter, "0|0", "011111000000", list(call(0, 0, 0, 1, 0), call(1, 0, 0, 3, 12)), "200", "0"},
		{hasty, "0|0", "00110011", list(call(0, 0, 0, 1, 12), call(1, 0, 0, 5, 16)), "100", ""},
		{hasty, "0|0", "00001111", list(call(0, 0, 0, 1, 8), call(1, 0, 1, 9, 16)), "200", ""},
		{both, "01|10", "0", list(call(0, 0, 0, 1, 2)), "000", "01"},
		{both, "01|10", "01", list(call(0, 0, 0, 1, 2), call(1, 1, 0, 3, 0)), "000", "01"},
		{both, "01|10", "0101", list(call(0, 0, 0, 1, 2), call(1, 1, 3, 3, 8), call(0, 1, 0, 5, 0)), "000", "01"},
		{both, "01|10", "01011", list(call(0, 0, 0, 1, 2), call(1, 1, 3, 3, 8), call(0, 1, 0, 5, 0), call(1, 0, 0, 9, 10)), "000", "0"},
		{both, "01|10", "110001", list(call(1, 1, 3, 1, 4), call(0, 0, 0, 5, 6), call(0, 1, 3, 7, 10), call(1, 0, 0, 11, 12)), "000", ""},
		{"7100", "000|000", "101010", list(call(1, 0, 1, 1, 2), call(0, 0, 1, 3, 4), call(1, 0, 1, 5, 6), call(0, 0, 1, 7, 8), call(1, 0, 1, 9, 10), call(0, 0, 1, 11, 12)), "000", ""},
		{"7100 7000", "000|000", "111", list(call(1, 0, 1, 1, 2), call(1, 0, 1, 3, 4), call(1, 0, 1, 5, 6)), "000", "0"},
		{"2010 7000|1000 7000", "01|1", "010101", nil, "", ""},
		{"2010 7000|1000 7000", "01|1", "01010", list(call(0, 0, 0, 1, 6), call(1, 1, 1, 3, 8), call(0, 1, 0, 9, 0)), "100", "0"},
	} {
		h, err := code.Run(lines(c.text), use(c.use), numbers(c.schedule))
		cells, e := code.Cells(lines(c.text), use(c.use), numbers(c.schedule))
		left, f := code.Left(lines(c.text), use(c.use), numbers(c.schedule))
		want := api.OK
		if c.cells == "" {
			want = api.ErrArg
		}
		if err != want || e != want || f != want {
			t.Errorf("%s of %s by %s: errors %d, %d, %d", c.schedule, c.text, c.use, err, e, f)
		}
		if !slices.Equal(h, c.h) || !slices.Equal(cells, numbers(c.cells)) || !slices.Equal(left, numbers(c.left)) {
			t.Errorf("%s of %s by %s: Run: %v, Cells: %v, Left: %v", c.schedule, c.text, c.use, h, cells, left)
		}
	}
}

func TestSchedules(t *testing.T) { // P8.3
	for _, c := range []struct {
		text, use    string
		steps, count int
	}{
		{counter, "0|0", 0, 1}, {counter, "|", 0, 1}, {counter, "", 12, 1}, {counter, "|", 5, 1}, {counter, "0", 1, 1}, {counter, "0", 12, 1}, {counter, "0|", 3, 1},
		{counter, "0|0", 1, 2}, {counter, "0|0", 2, 4}, {counter, "0|0", 5, 32}, {counter, "0|0", 6, 62},
		{hasty, "0|0", 8, 70}, {hasty, "0|0", 7, 70}, {hasty, "0|0", 6, 50}, {hasty, "0|0", 12, 70}, {hasty, "000", 12, 1},
		{"7000", "000|000", 6, 20}, {"7000", "000|000", 4, 14}, {"7000", "000|0", 12, 4}, {"7000 7000", "00|00", 12, 6}, {"1000 7000", "000|000", 12, 924}, {"1000 7000", "000|000", 11, 924},
		{spin, "0|0", 12, 4096}, {spin, "0", 12, 1}, {"6000 7000|7100", "0|1", 12, 13}, {"6000 7000|7100", "0|1", 0, 1}, {"6000 7000|7100", "0|1", 1, 2},
		{"6000 7000|7100", "0|111", 3, 8}, {"6000 7000|7100", "0|111", 4, 15},
	} {
		if n, err := code.Schedules(lines(c.text), use(c.use), c.steps); n != c.count || err != api.OK {
			t.Errorf("Schedules(%s, %s, %d): %d, %d, not %d", c.text, c.use, c.steps, n, err, c.count)
		}
	}
}

func TestHistories(t *testing.T) { // P8.3
	type runs = [][]api.Call
	for _, c := range []struct {
		text, use string
		steps     int
		want      runs
	}{
		{counter, "0|0", 0, runs{nil}},
		{counter, "|", 12, runs{nil}},
		{counter, "0|0", 1, runs{{call(0, 0, 0, 1, 0)}, {call(1, 0, 0, 1, 0)}}},
		{counter, "0", 12, runs{{call(0, 0, 0, 1, 10)}}},
		// One that ends comes first; then by From.
		{counter, "0|0", 2, runs{
			{call(0, 0, 0, 1, 0)}, {call(0, 0, 0, 1, 0), call(1, 0, 0, 3, 0)},
			{call(1, 0, 0, 1, 0)}, {call(1, 0, 0, 1, 0), call(0, 0, 0, 3, 0)},
		}},
		// By Op before Says, and by Says before From and To.
		{"7100|7000 7000", "10|1", 2, runs{
			{call(0, 1, 0, 1, 2), call(0, 0, 1, 3, 4)}, {call(0, 1, 0, 1, 2), call(1, 1, 0, 3, 4)}, {call(1, 1, 0, 1, 2), call(0, 1, 0, 3, 4)},
		}},
		{"2010 7000|1000 1000 7000", "0|1", 5, runs{
			{call(0, 0, 0, 1, 4), call(1, 1, 1, 5, 10)}, {call(0, 0, 0, 1, 6), call(1, 1, 1, 3, 10)}, {call(0, 0, 0, 1, 8), call(1, 1, 1, 3, 10)}, {call(0, 0, 0, 1, 10), call(1, 1, 1, 3, 8)},
			{call(1, 1, 0, 1, 6), call(0, 0, 0, 7, 10)}, {call(1, 1, 0, 1, 8), call(0, 0, 0, 5, 10)}, {call(1, 1, 0, 1, 10), call(0, 0, 0, 5, 8)},
			{call(1, 1, 1, 1, 8), call(0, 0, 0, 3, 10)}, {call(1, 1, 1, 1, 10), call(0, 0, 0, 3, 6)}, {call(1, 1, 1, 1, 10), call(0, 0, 0, 3, 8)},
		}},
		// Many schedules with one history.
		{spin, "0|0", 4, runs{
			{call(0, 0, 0, 1, 0)}, {call(0, 0, 0, 1, 0), call(1, 0, 0, 3, 0)}, {call(0, 0, 0, 1, 0), call(1, 0, 0, 5, 0)}, {call(0, 0, 0, 1, 0), call(1, 0, 0, 7, 0)},
			{call(1, 0, 0, 1, 0)}, {call(1, 0, 0, 1, 0), call(0, 0, 0, 3, 0)}, {call(1, 0, 0, 1, 0), call(0, 0, 0, 5, 0)}, {call(1, 0, 0, 1, 0), call(0, 0, 0, 7, 0)},
		}},
	} {
		if l, err := code.Histories(lines(c.text), use(c.use), c.steps); !sameRuns(l, c.want) || err != api.OK {
			t.Errorf("Histories(%s, %s, %d): %v, %d", c.text, c.use, c.steps, l, err)
		}
	}
}

func TestBreak(t *testing.T) { // P8.4
	// A flag: set (0) asks nothing, ask (1) tells whether it is set; the second one asks too early.
	flag, late := "10 00|10 11", "2010 7200|1000 7000"
	for _, c := range []struct {
		spec, text, use string
		steps           int
		first           string // - if there is none
	}{
		{counts, counter, "0|0", 12, "-"}, {counts, counter, "00", 12, "-"}, {counts, counter, "0|0", 0, "-"}, {counts, counter, "|", 12, "-"},
		{counts, hasty, "0|0", 8, "00100111"}, {counts, hasty, "0|0", 12, "00100111"}, {counts, hasty, "0|0", 7, "-"}, {counts, hasty, "000", 12, "-"},
		{counts, "7000", "00", 2, "00"}, {counts, "7000", "00", 1, "-"}, {counts, "7000", "0|0", 2, "01"}, {counts, "7000", "00|0", 2, "00"}, {counts, "7000", "00|00", 3, "001"},
		{counts, "7000", "0|00", 12, "011"}, {counts, "7100", "0|0", 0, "-"}, {counts, "7100", "0|0", 1, "0"}, {counts, "7100", "0|0", 5, "01"}, {counts, "7100", "|0", 5, "1"},
		{flag, late, "0|1", 12, "-"}, {flag, late, "00|1", 12, "-"}, {flag, late, "0|11", 12, "-"}, {flag, late, "01|10", 12, "-"}, {flag, late, "010|111", 12, "-"},
		{flag, "7200 2010 7200|1000 7000", "0|1", 12, "011"}, {flag, "7200|1000 7000", "0|1", 2, "-"}, {flag, "7200|1000 7000", "0|1", 3, "011"}, {flag, "7200|1000 7000", "01", 3, "000"},
		{flag, "2010 2020 7200|1000 7000", "0|11", 12, "0001111"}, {flag, "2010 2020 2010 7200|1000 7000", "0|11", 12, "01011001"}, {flag, "2010 7200|1000 4010 7000", "0|1", 12, "11100"},
		// An answer that no specification gives; and one that tells what is set while the call is open.
		{"05", "4060 7000", "0|0", 12, "0011"}, {"05", "4060 7000", "0|0", 1, "-"}, {"05", "4060 7000", "0|0", 2, "00"}, {"05", "4050 7000", "0|0", 12, "-"}, {"05", "4090 7000", "0", 12, "00"},
		{flag, "2010 6200 7200|1000 7000", "0|1", 12, "-"},
	} {
		s, l, u := spec(c.spec), lines(c.text), use(c.use)
		want, none := numbers(c.first), api.OK
		if c.first == "-" {
			want, none = nil, api.ErrNone
		}
		if schedule, err := code.Break(s, l, u, c.steps); !slices.Equal(schedule, want) || err != none {
			t.Errorf("Break(%s, %s, %s, %d): %v, %d, not %s", c.spec, c.text, c.use, c.steps, schedule, err, c.first)
		}
		if is, err := code.Sound(s, l, u, c.steps); is != (c.first == "-") || err != api.OK {
			t.Errorf("Sound(%s, %s, %s, %d): %v, %d", c.spec, c.text, c.use, c.steps, is, err)
		}
		if is, err := code.Breaks(s, l, u, want); is != (c.first != "-") || err != api.OK {
			t.Errorf("Breaks(%s, %s, %s, %v): %v, %d", c.spec, c.text, c.use, want, is, err)
		}
	}
}

func TestBreaks(t *testing.T) { // P8.4
	for _, c := range []struct {
		text, use, schedule string
		want                bool
	}{
		{hasty, "0|0", "", false}, {hasty, "0|0", "0011", false}, {hasty, "0|0", "001100", false}, {hasty, "0|0", "0011001", false}, {hasty, "0|0", "00110011", true},
		{hasty, "0|0", "00001111", false}, {hasty, "0|0", "11110000", false}, {hasty, "0|0", "11001100", true}, {hasty, "0|0", "00011101", false}, {hasty, "0|0", "00101011", true},
		{counter, "0|0", "0000011111", false}, {counter, "0|0", "001111100000", false}, {counter, "0|0", "0101010111", false}, {counter, "", "", false},
		{hasty, "00|0", "0110001", false}, {hasty, "00|0", "01100011", true}, {hasty, "00|0", "0110001000", false}, {hasty, "00|0", "01100010001", true}, {hasty, "00|0", "100001110000", true},
	} {
		if is, err := code.Breaks(spec(counts), lines(c.text), use(c.use), numbers(c.schedule)); is != c.want || err != api.OK {
			t.Errorf("Breaks(%s, %s, %s): %v, %d", c.text, c.use, c.schedule, is, err)
		}
	}
}

func TestOrder(t *testing.T) { // P8.5
	// The counter that tries again counts its last try.
	for _, c := range []struct {
		text, use, schedule, marks string
		order                      string // - if there is none
	}{
		{counter, "|", "", "2", ""}, {counter, "0", "00000", "2", "0"}, {counter, "0", "00000", "4", "0"}, {counter, "0", "0000", "2", "-"}, {counter, "0|0", "00000", "2", "-"}, {counter, "0|0", "", "2", "-"},
		{"4010 2000 7000", "0|0", "100011", "0", "01"}, {"4010 2000 7000", "0|0", "100011", "1", "10"}, {"4010 2000 7000", "0|0", "100011", "2", "10"},
		{"4010 2000 7000", "0|0", "011001", "0", "01"}, {"4010 2000 7000", "0|0", "011001", "1", "10"}, {"4010 2000 7000", "0|0", "011001", "2", "01"},
		{"6020 7100 7000", "0", "00", "1", "-"}, {"6020 7100 7000", "0", "00", "2", "0"}, {"6020 7100 7000|7000", "01", "000", "10", "-"}, {"6020 7100 7000|7000", "01", "000", "20", "01"}, {"6020 7100 7000|7000", "11|1", "100", "10", "012"},
		// The last time: thread 0 does the line 0 twice, once in front of thread 1 and once behind it.
		{"3201 6300 7000", "0|0", "001011", "0", "-"}, {"1000 6000 7000|2010 7000", "0|1", "0011000", "00", "10"}, {"1000 6000 7000|2010 7000", "0|1", "0011000", "10", "10"}, {"1000 6000 7000|2010 7000", "0|1", "0110000", "00", "10"}, {"1000 6000 7000|2010 7000", "0|1", "011000", "00", "-"},
		{"1000 6000 7000|2010 7000", "0|1", "0101000", "01", "10"}, {"2010 7000|7000", "01|10", "001110", "00", "0123"}, {"2010 7000|7000", "01|10", "011001", "00", "0123"}, {"2010 7000|7000", "01|10", "011001", "10", "1032"},
		{"7000", "000|000", "010101", "0", "012345"}, {"7000", "000|000", "000111", "0", "012345"}, {"1000 7000", "000|000", "101010010101", "0", "012345"}, {"1000 7000", "000|000", "100110101001", "1", "102354"},
	} {
		want, none := numbers(c.order), api.OK
		if c.order == "-" {
			want, none = nil, api.ErrNone
		}
		if order, err := code.Order(lines(c.text), use(c.use), numbers(c.schedule), numbers(c.marks)); !slices.Equal(order, want) || err != none {
			t.Errorf("Order(%s, %s, %s, %s): %v, %d, not %s", c.text, c.use, c.schedule, c.marks, order, err, c.order)
		}
	}
}

func TestMarked(t *testing.T) { // P8.5
	flag := "10 00|10 11"
	for _, c := range []struct {
		spec, text, use, marks string
		want                   bool
	}{
		{counts, counter, "0|0", "2", true}, {counts, counter, "0|0", "0", true}, {counts, counter, "0|0", "1", true}, {counts, counter, "0|0", "3", false}, {counts, counter, "0|0", "4", false},
		{counts, counter, "00", "4", true}, {counts, counter, "|", "4", true}, {counts, counter, "", "0", true},
		{counts, hasty, "0|0", "2", false}, {counts, hasty, "000", "0", true}, {counts, hasty, "000", "3", true},
		{flag, "2010 7200|1000 7000", "01|1", "00", true}, {flag, "2010 7200|1000 7000", "01|1", "01", false}, {flag, "2010 7200|1000 7000", "01|1", "10", false}, {flag, "2010 7200|1000 7000", "0|0", "10", true},
		{flag, "2010 7200|1000 7000", "1|1", "10", true}, {flag, "2010 7200|1000 7000", "1", "01", true},
		// A marked line that is not done; what is not used; no schedule that is over; answers that no specification gives.
		{"00", "6020 7000 7000", "0|0", "2", true}, {"00", "6020 7000 7000", "0|0", "1", false}, {"00 00", "7000|6020 7000 7000", "00|0", "01", true}, {"00 00", "7000|6020 7000 7000", "01|0", "01", false},
		{counts, spin, "0|0", "1", true}, {counts, spin, "0", "0", true}, {"05", "4060 7000", "0", "0", false}, {"05", "4050 7000", "0", "0", true}, {"05", "4060 7000", "|", "0", true},
		// The schedules that are over have no more than 12 steps.
		{counts, "4010 4010 4010 7000", "000", "0", false}, {counts, "4010 4010 4010 4010 7000", "000", "0", true}, {counts, "4010 4010 4010 4010 7000", "00", "0", false},
	} {
		if is, err := code.Marked(spec(c.spec), lines(c.text), use(c.use), numbers(c.marks)); is != c.want || err != api.OK {
			t.Errorf("Marked(%s, %s, %s, %s): %v, %d", c.spec, c.text, c.use, c.marks, is, err)
		}
	}
}

func TestFollows(t *testing.T) { // P8.6
	flag := "10 00|10 11"
	for _, c := range []struct {
		spec, text, word string
		want             bool
	}{
		{counts, counter, "", true}, {counts, counter, "0", true}, {counts, counter, "00", true}, {counts, counter, "000", false}, {counts, hasty, "000", true}, {counts, spin, "", true}, {counts, spin, "0", false},
		{counts, "7000", "0", true}, {counts, "7000", "00", false}, {counts, "7100", "0", false}, {"05", "4050 7000", "000", true}, {"05", "4060 7000", "0", false},
		{flag, "2010 7200|1000 7000", "101", true}, {flag, "2010 7200|1000 7000", "010", true}, {flag, "2010 7200|1100 7000", "11", true}, {flag, "2010 7200|1100 7100", "1", true}, {flag, "2010 7200|1010 7000", "01", false}, {flag, "2010 7200|1010 7000", "11", true},
		{"00", "7000 7000", "000", true}, {"00", "1000 1000 1000 7000", "000", true}, {"00", "1000 1000 1000 1000 7000", "000", false}, {"00", "1000 1000 1000 1000 1000 7000", "00", true}, {"00", "1000 1000 1000 1000 1000 1000 7000", "00", false},
		{"01 00", "7100|6000 7000", "00", true}, {"01 00", "7100|6000 7000", "01", false}, {"01 00", "7100|6000 7000", "10", false},
	} {
		if is, err := code.Follows(spec(c.spec), lines(c.text), numbers(c.word)); is != c.want || err != api.OK {
			t.Errorf("Follows(%s, %s, %s): %v, %d", c.spec, c.text, c.word, is, err)
		}
	}
}

func TestEnds(t *testing.T) { // P8.6
	for _, c := range []struct {
		text, use string
		want      bool
	}{
		{counter, "|", true}, {counter, "", true}, {counter, "0", true}, {counter, "00", true}, {counter, "0|0", false}, {counter, "000", false}, {counter, "0|", true},
		{hasty, "0|0", true}, {hasty, "000", true}, {hasty, "00|0", true}, {hasty, "00|00", false}, {spin, "0", false}, {spin, "|0", false}, {spin, "|", true},
		{"1000 7000", "000|000", true}, {"1000 1000 7000", "00|00", true}, {"1000 1000 7000", "000|00", false}, {"7000 6000 7000", "000|000", true},
		{"1000 1000 1000 1000 1000 7000", "0|0", true}, {"1000 1000 1000 1000 1000 1000 7000", "0|0", false},
		// A thread that waits until the other one has written.
		{"2010 7000|1000 6000 7000", "0", true}, {"2010 7000|1000 6000 7000", "01", true}, {"2010 7000|1000 6000 7000", "10", false}, {"2010 7000|1000 6000 7000", "0|1", false},
	} {
		if is, err := code.Ends(lines(c.text), use(c.use)); is != c.want || err != api.OK {
			t.Errorf("Ends(%s, %s): %v, %d", c.text, c.use, is, err)
		}
	}
}

func TestSwapped(t *testing.T) { // P8.7
	all := "1000 1110 1220 2000 2110 2220 7000|3012 3112 3212 4010 5012 6010 7100|4100 4110 4120 5000 5111 6100 6120 7000"
	for _, c := range []struct {
		text string
		a, b int
		want string
	}{
		{counter, 0, 2, "1020 5201 3202 6300 7000"}, {counter, 2, 0, "1020 5201 3202 6300 7000"}, {counter, 1, 0, "1010 5201 3102 6300 7000"}, {counter, 1, 2, counter}, {counter, 0, 0, counter},
		{all, 0, 1, "1010 1100 1220 2100 2010 2220 7000|3112 3012 3212 4010 5012 6010 7100|4100 4110 4120 5000 5111 6100 6120 7000"},
		{all, 1, 2, "1000 1120 1210 2000 2210 2120 7000|3012 3212 3112 4010 5012 6010 7100|4100 4110 4120 5000 5111 6100 6120 7000"},
		{all, 2, 0, "1020 1110 1200 2200 2110 2020 7000|3212 3112 3012 4010 5012 6010 7100|4100 4110 4120 5000 5111 6100 6120 7000"},
		{all, 0, 0, all}, {all, 1, 1, all}, {all, 2, 2, all},
	} {
		if l, err := code.Swapped(lines(c.text), c.a, c.b); !sameCode(l, lines(c.want)) || err != api.OK {
			t.Errorf("Swapped(%s, %d, %d): %v, %d", c.text, c.a, c.b, l, err)
		}
	}
}

// TestCounters has the chapter's two examples.
func TestCounters(t *testing.T) {
	both, s := use("0|0"), spec(counts)
	sound, err := code.Sound(s, lines(counter), both, 12)
	marked, e := code.Marked(s, lines(counter), both, numbers("2"))
	breaks, f := code.Breaks(s, lines(hasty), both, numbers("00110011"))
	if !sound || !marked || !breaks || err != api.OK || e != api.OK || f != api.OK {
		t.Errorf("Sound: %v, Marked: %v, Breaks: %v", sound, marked, breaks)
	}
}
