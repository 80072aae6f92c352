package progress_test

import (
	"slices"
	"strings"
	"testing"

	"lineal/api"
	"lineal/progress"
)

// graph makes a graph of a text: its number of places, and each move as From, the thread (a, b, c; A, B, C if it is Done) and To.
func graph(text string) api.Graph {
	words := strings.Fields(text)
	g := api.Graph{Places: int(words[0][0] - '0')}
	for _, w := range words[1:] {
		thread := strings.IndexByte("abcABC", w[1])
		g.Moves = append(g.Moves, api.Move{From: int(w[0] - '0'), Thread: thread % 3, To: int(w[2] - '0'), Done: thread >= 3})
	}
	return g
}

// numbers makes a list of digits; - is the empty one.
func numbers(digits string) []int {
	var list []int
	for _, d := range strings.Trim(digits, "-") {
		list = append(list, int(d-'0'))
	}
	return list
}

func same(a, b api.Graph) bool { return a.Places == b.Places && slices.Equal(a.Moves, b.Moves) }

func isZero(g api.Graph) bool { return g.Places == 0 && len(g.Moves) == 0 }

// Graphs: two threads of which one waits for the other one; one that goes round for ever; two that let each other fail; one that goes on till it is Done.
const (
	ring = "2 0a1 1B0"
	spin = "1 0a0"
	swap = "3 0a1 0b2 1A0 2B0 1b1"
	line = "3 0a1 1a2 2A2 0b2"
)

// full is a graph with as many places and moves as there may be.
func full() api.Graph {
	g := api.Graph{Places: 8}
	for i := range 20 {
		g.Moves = append(g.Moves, api.Move{From: i % 8, Thread: i % 3, To: 7 - i/8, Done: i%5 == 0})
	}
	return g
}

// with returns the graph with more moves.
func with(g api.Graph, moves ...api.Move) api.Graph {
	return api.Graph{Places: g.Places, Moves: slices.Concat(g.Moves, moves)}
}

// invalid returns graphs that are not valid, each for another reason.
func invalid() map[string]api.Graph {
	two := graph("2 0a1")
	return map[string]api.Graph{
		"zero":                   {},
		"no places":              {Moves: []api.Move{{}}},
		"less than no places":    {Places: -1},
		"far fewer than none":    {Places: -1 << 63},
		"nine places":            {Places: 9},
		"many places":            {Places: 1<<63 - 1},
		"from no place":          graph("2 0a1 2a1"),
		"from less than none":    with(two, api.Move{From: -1}),
		"from far away":          with(two, api.Move{From: 1 << 62}),
		"to no place":            graph("2 0a2"),
		"to less than none":      with(two, api.Move{To: -1}),
		"to far away":            with(two, api.Move{To: -1 << 63}),
		"the thread three":       with(two, api.Move{Thread: 3}),
		"less than no thread":    with(two, api.Move{Thread: -1}),
		"a thread far away":      with(two, api.Move{Thread: 1 << 62}),
		"a move twice":           graph("2 0a1 0a1"),
		"a move twice, far away": graph("3 0a1 0b1 0A1 1a0 0c2 0a1"),
		"a Done move twice":      graph("1 0C0 0C0"),
		"21 moves":               with(full(), api.Move{From: 1, Thread: 1, To: 1}),
		"a thousand moves":       {Places: 8, Moves: make([]api.Move, 1000)},
		"20 moves, two the same": {Places: 8, Moves: append(full().Moves[:19:19], full().Moves[3])},
	}
}

func TestValid(t *testing.T) { // P7.2
	for _, text := range []string{"1", "8", "1 0a0 0b0 0c0 0A0 0B0 0C0", "2 0a1 1a0 0a0 1a1", "8 7c7", ring, spin, swap, line} {
		if !progress.Valid(graph(text)) {
			t.Errorf("%s is not valid", text)
		}
	}
	if !progress.Valid(full()) || !progress.Valid(api.Graph{Places: 1, Moves: []api.Move{}}) {
		t.Error("a graph that is full, or one without moves, is not valid")
	}
	for kind, g := range invalid() {
		if progress.Valid(g) {
			t.Errorf("a graph is valid: %s", kind)
		}
	}
}

func TestIsPath(t *testing.T) { // P7.2
	for _, c := range []struct {
		text, path string
		is         bool
	}{
		{"1", "", true}, {"1", "0", false}, {spin, "0", true}, {spin, "00000", true}, {spin, "01", false},
		{ring, "", true}, {ring, "0", true}, {ring, "1", true}, {ring, "0101", true}, {ring, "1010", true}, {ring, "00", false}, {ring, "11", false}, {ring, "2", false}, {ring, "012", false},
		{"4 2a3 3a2", "01", true}, // it needs not begin at 0, nor where anything is reached
		{"3 0a1 1b2 0c2", "01", true}, {"3 0a1 1b2 0c2", "02", false}, {"3 0a1 1b2 0c2", "21", false}, {"3 0a1 1b2 0c2", "010", false}, {swap, "0442132", false}, {swap, "0442130", true},
	} {
		if is, err := progress.IsPath(graph(c.text), numbers(c.path)); is != c.is || err != api.OK {
			t.Errorf("IsPath(%s, %s): %v, %d", c.text, c.path, is, err)
		}
	}
	for _, path := range [][]int{{-1}, {2}, {0, -1}, {0, 1, 2}, {1 << 62}, {-1 << 63}, {0, 1 << 32}} {
		if is, err := progress.IsPath(graph(ring), path); is || err != api.OK {
			t.Errorf("IsPath(%v): %v, %d", path, is, err)
		}
	}
	for length, want := range map[int]bool{999: true, 1000: true, 1001: false, 5000: false} {
		if is, err := progress.IsPath(graph(spin), make([]int, length)); is != want || err != api.OK {
			t.Errorf("IsPath of %d moves: %v, %d", length, is, err)
		}
	}
}

func TestReachedAndEnds(t *testing.T) { // P7.2
	for _, c := range []struct{ text, reached, ends string }{
		{"1", "0", "0"}, {"8", "0", "0"}, {spin, "0", "-"}, {"1 0A0", "0", "-"}, {ring, "01", "-"}, {swap, "012", "-"}, {line, "012", "-"},
		{"2 1a0", "0", "0"}, {"2 1a1", "0", "0"}, {"2 0C1", "01", "1"}, {"3 0a2 1b0", "02", "2"}, {"4 0a3 0b1 1c3", "013", "3"}, {"4 0a3 0b1 3c2", "0123", "12"},
		{"8 0a7 7b6 6c5 5A4 4B3 3C2 2a1", "01234567", "1"}, {"8 0a7 7b6 6c5 5A4 4B3 3C2 2a1 1a1", "01234567", "-"}, {"8 0a4 2a3 3a2 4b0 5a5 6a0 7A4", "04", "-"},
	} {
		if l, err := progress.Reached(graph(c.text)); !slices.Equal(l, numbers(c.reached)) || err != api.OK {
			t.Errorf("Reached(%s): %v, %d", c.text, l, err)
		}
		if l, err := progress.Ends(graph(c.text)); !slices.Equal(l, numbers(c.ends)) || err != api.OK {
			t.Errorf("Ends(%s): %v, %d", c.text, l, err)
		}
	}
}

func TestWay(t *testing.T) { // P7.2
	for _, c := range []struct{ text, ways string }{ // for each place, "!" if there is none
		{"1", "-"}, {spin, "-"}, {ring, "- 0"}, {swap, "- 0 1"}, {line, "- 0 3"}, {"3 1a0 2b2", "- ! !"},
		{"2 0a1 0b1", "- 0"}, {"2 0b1 0a1", "- 0"}, {"2 0a0 0A1 0c1", "- 1"},
		{"3 0a1 1a2 0b2", "- 0 2"},               // the shortest one, though another one comes first
		{"4 0b2 0a1 1a3 2a3", "- 1 0 03"},        // of two the one whose first move comes first
		{"4 2a3 1a3 0a1 0b2", "- 2 3 21"},        // though its second move comes behind
		{"5 0a2 0b1 1c3 2c4 4c3", "- 1 0 12 03"}, // a longer way that is found behind a shorter one
		{"6 0a3 0a1 3b4 1b4 1b2 4c5 2a5", "- 1 14 0 02 025"},
		{"6 4c5 2a5 1b2 1b4 3b4 0a1 0a3", "- 5 52 6 53 521"}, // the first one of length 3 goes on from the first one of length 2
		{"8 0a7 7b6 6c5 5A4 4B3 3C2 2a1", "- 0123456 012345 01234 0123 012 01 0"},
	} {
		for place, want := range strings.Fields(c.ways) {
			l, err := progress.Way(graph(c.text), place)
			if want == "!" {
				if len(l) > 0 || err != api.ErrNone {
					t.Errorf("Way(%s, %d): %v, %d", c.text, place, l, err)
				}
			} else if !slices.Equal(l, numbers(want)) || err != api.OK {
				t.Errorf("Way(%s, %d): %v, %d", c.text, place, l, err)
			}
		}
	}
}

// asked is a claim, for a thread.
type asked struct{ claim, thread int }

// claims returns all claims that may be asked for.
func claims() []asked { return []asked{{0, 0}, {1, 0}, {1, 1}, {1, 2}, {2, 0}, {2, 1}, {2, 2}} }

// graphs returns graphs with the least ranks for the claims, in the order of claims(); "!" if the claim does not hold.
func graphs() map[string]string {
	return map[string]string{
		"1":                                     "0 0 0 0 0 0 0",
		"4":                                     "0000 0000 0000 0000 0000 0000 0000",
		ring:                                    "10 ! 00 00 10 00 00",
		spin:                                    "! ! 0 0 ! 0 0",
		"1 0A0":                                 "0 0 0 0 0 0 0",
		"1 0A0 0a0":                             "! ! 0 0 ! 0 0", // a move that is Done does not help one that is not
		"1 0c0 0A0":                             "! 0 0 ! 0 0 !",
		swap:                                    "! 101 ! 000 100 ! 000",
		line:                                    "210 210 100 000 210 100 000",
		"2 1a1":                                 "00 00 00 00 00 00 00", // what is not reached does not matter
		"2 1a0 1b1":                             "00 00 00 00 00 00 00",
		"3 0a1 2a0 2a1":                         "100 100 000 000 100 000 000",
		"3 0b1 1b0 1a2":                         "! 110 ! 000 010 ! 000", // places of a circle have one rank
		"3 0b1 1c0 1a2":                         "! 110 ! ! 010 100 010",
		"2 0a1 1b0":                             "! ! ! 00 10 01 00", // of two threads, each free alone
		"2 0a1 1A0":                             "10 10 00 00 10 00 00",
		"2 0a1 1a0":                             "! ! 00 00 ! 00 00",
		"2 0A1 1A0":                             "00 00 00 00 00 00 00",
		"3 0a1 1b2 2C0":                         "210 ! ! 000 100 010 000",
		"4 0a1 1b2 2c3 3a0 3A0":                 "! ! ! ! 1002 0100 0010",
		"3 0a1 1b1 1a2":                         "! 210 ! 000 210 ! 000",
		"4 0A1 1a2 2A3":                         "0100 0100 0000 0000 0100 0000 0000",
		"4 0a1 0b2 2a3 3a1":                     "3021 2021 1000 0000 1021 1000 0000",
		"3 1a2 2a1 0A0":                         "000 000 000 000 000 000 000",
		"4 0B1 1a2 2a3 3a1":                     "! ! 0000 0000 ! 0000 0000",
		"8 0a1 1a2 2a3 3a4 4a5 5a6 6a7":         "76543210 76543210 00000000 00000000 76543210 00000000 00000000",
		"8 0a1 1a2 2a3 3a4 4a5 5a6 6a7 7a0":     "! ! 00000000 00000000 ! 00000000 00000000",
		"8 0a1 1a2 2a3 3a4 4a5 5a6 6a7 7A0":     "76543210 76543210 00000000 00000000 76543210 00000000 00000000",
		"8 0a1 1a2 2a3 3a4 4a5 5a6 6a7 7B0":     "76543210 ! 00000000 00000000 76543210 00000000 00000000",
		"8 6a7 5a6 4a5 3a4 2a3 1a2 0a1 0b0":     "! 76543210 ! 00000000 76543210 ! 00000000",
		"8 0a1 0b2 0c3 1b4 2c4 3a4 4B5 5C6 6A7": "21110000 10010000 11000000 10100000 10010000 11000000 10100000",
		"8 0a1 1b2 2c0 2a3 3b4 4c3 4C5 5a6 6b7": "! ! ! ! 10100100 01010010 00101000",
		"5 0a1 0A1 1b2 1B2 2a3 2A3 3b4 3B4 4A0": "43210 21100 ! 00000 10100 01010 00000",
		"5 0A1 0B1 1B2 1A2 2A3 2C3 3c3 3C4":     "! 00000 00000 ! 00000 00000 !",
		"6 0a2 2a1 1a4 4a3 3a5":                 "534120 534120 000000 000000 534120 000000 000000",
		"6 0c1 1b0 0a2 2c3 3b2 2a4 4c5 5b4 5a5": "! ! ! ! ! 010101 101010",
		"6 0c1 1b0 0a2 2c3 3b2 2a4 4c5 5b4 5A5": "! 221100 ! ! 201000 010101 101010",
		"6 0c1 1b0 0a2 2c3 3b2 2a4 4c5 5b4 5a5 5C0": "! ! ! ! ! 010101 101010",
	}
}

func TestRanks(t *testing.T) { // P7.3, P7.4, P7.7
	for text, row := range graphs() {
		g := graph(text)
		for i, want := range strings.Fields(row) {
			claim, thread := claims()[i].claim, claims()[i].thread
			is, err := progress.Holds(g, claim, thread)
			if is != (want != "!") || err != api.OK {
				t.Errorf("Holds(%s, %d, %d): %v, %d", text, claim, thread, is, err)
			}
			l, err := progress.Ranks(g, claim, thread)
			path, circle, none := progress.Lasso(g, claim, thread)
			if want != "!" {
				if !slices.Equal(l, numbers(want)) || err != api.OK {
					t.Errorf("Ranks(%s, %d, %d): %v, %d", text, claim, thread, l, err)
				}
				if len(path) > 0 || len(circle) > 0 || none != api.ErrNone {
					t.Errorf("Lasso(%s, %d, %d): %v, %v, %d", text, claim, thread, path, circle, none)
				}
				continue
			}
			if len(l) > 0 || err != api.ErrNone {
				t.Errorf("Ranks(%s, %d, %d): %v, %d", text, claim, thread, l, err)
			}
			if is, err := progress.Refutes(g, claim, thread, path, circle); !is || err != api.OK || none != api.OK || len(path) > 100 || len(circle) > 100 {
				t.Errorf("Lasso(%s, %d, %d): %v, %v, %d", text, claim, thread, path, circle, none)
			}
		}
	}
}

func TestProve(t *testing.T) { // P7.3
	for _, c := range []struct {
		text          string
		claim, thread int
		ranks         string
		is            bool
	}{
		{ring, 0, 0, "10", true}, {ring, 0, 0, "98", true}, {ring, 0, 0, "00", false}, {ring, 0, 0, "11", false}, {ring, 0, 0, "01", false},
		{ring, 1, 0, "10", false}, {ring, 1, 0, "11", false}, {ring, 1, 1, "00", true}, {ring, 1, 1, "10", true}, {ring, 1, 1, "12", false}, // those of others lead to no greater rank, though 1 goes back by one that is Done
		{ring, 1, 2, "00", true}, {ring, 1, 2, "55", true}, {ring, 1, 2, "10", false}, {ring, 1, 2, "01", false}, // of others also those that are Done
		{ring, 2, 0, "10", true}, {ring, 2, 0, "00", false}, {ring, 2, 1, "00", true}, {ring, 2, 1, "09", true}, {ring, 2, 1, "90", true}, {ring, 2, 2, "37", true},
		{spin, 0, 0, "9", false}, {spin, 1, 0, "0", false}, {spin, 1, 1, "0", true}, {spin, 2, 0, "5", false}, {spin, 2, 2, "5", true},
		{"2 1a1", 0, 0, "00", true}, {"2 1a0", 0, 0, "00", true}, {"2 1a0", 1, 0, "90", true}, {"2 1a0", 2, 0, "04", true}, // from what is not reached
		{"3 0a1 2a0 2b1", 1, 1, "000", true}, {"3 0a1 2a0 2b1", 1, 1, "120", false}, {"3 0a1 2a0 2b1", 0, 0, "210", true},
		{"1 0A0", 0, 0, "7", true}, {"1 0A0", 1, 0, "7", true}, {"1 0A0", 2, 0, "7", true}, {"1 0A0 0a0", 0, 0, "7", false},
		{"2 0A1", 0, 0, "09", true}, {"2 0A1", 1, 0, "09", true}, {"2 0A1", 1, 1, "09", false}, {"2 0A1", 2, 0, "09", true},
		{line, 0, 0, "210", true}, {line, 0, 0, "310", true}, {line, 0, 0, "320", true}, {line, 0, 0, "200", false}, {line, 0, 0, "110", false}, {line, 1, 1, "100", true}, {line, 1, 1, "110", true}, {line, 1, 1, "101", false}, {line, 1, 1, "010", false},
		{swap, 1, 0, "101", true}, {swap, 1, 0, "212", true}, {swap, 1, 0, "100", false}, {swap, 1, 0, "102", false}, {swap, 1, 0, "201", false}, {swap, 2, 0, "100", true}, {swap, 2, 0, "109", true}, {swap, 0, 0, "211", false},
	} {
		if is, err := progress.Prove(graph(c.text), c.claim, c.thread, numbers(c.ranks)); is != c.is || err != api.OK {
			t.Errorf("Prove(%s, %d, %d, %s): %v, %d", c.text, c.claim, c.thread, c.ranks, is, err)
		}
	}
}

func TestProveWhatAreNoRanks(t *testing.T) { // P7.1, P7.3
	most, least := []int{100, 0}, []int{100, 99}
	for _, ranks := range [][]int{most, least} {
		if is, err := progress.Prove(graph(ring), 0, 0, ranks); !is || err != api.OK {
			t.Errorf("Prove(%v): %v, %d", ranks, is, err)
		}
	}
	for _, ranks := range [][]int{nil, {}, {1}, {1, 0, 0}, {101, 0}, {1, -1}, {-1, 0}, {1 << 62, 0}, {1, -1 << 63}, make([]int, 1000)} {
		for _, c := range claims() {
			if is, err := progress.Prove(graph(ring), c.claim, c.thread, ranks); is || err != api.ErrArg {
				t.Errorf("Prove(%v, %v): %v, %d", c, ranks, is, err)
			}
		}
	}
	// Places that are not reached have ranks, too.
	for _, ranks := range [][]int{{0, 0}, {0, 101}, {0, -1}, {0}} {
		want := len(ranks) == 2 && ranks[1] == 0
		if is, err := progress.Prove(graph("2 1a1"), 0, 0, ranks); is != want || (err == api.OK) != want {
			t.Errorf("Prove(%v): %v, %d", ranks, is, err)
		}
	}
}

func TestRefutes(t *testing.T) { // P7.4
	for _, c := range []struct {
		text          string
		claim, thread int
		path, circle  string
		is            bool
	}{
		{spin, 0, 0, "", "0", true}, {spin, 1, 0, "", "0", true}, {spin, 2, 0, "", "0", true}, {spin, 0, 0, "00", "000", true},
		{spin, 1, 1, "", "0", false}, {spin, 2, 1, "", "0", false}, // of another thread
		{spin, 0, 0, "", "", false}, {spin, 0, 0, "0", "", false}, {spin, 1, 0, "", "", false}, {spin, 2, 0, "", "", false}, // the empty path is no circle
		{"1 0A0", 0, 0, "", "0", false}, {"1 0A0", 1, 0, "", "0", false}, {"1 0A0", 2, 0, "", "0", false},
		{"1 0a0 0A0", 0, 0, "1", "0", true}, {"1 0a0 0A0", 0, 0, "0", "01", false}, {"1 0a0 0A0", 1, 0, "1", "0", true}, {"1 0a0 0A0", 1, 0, "", "10", false}, {"1 0a0 0A0", 2, 0, "1", "0", true}, {"1 0a0 0A0", 2, 0, "", "10", false},
		{"1 0a0 0B0", 0, 0, "", "01", false}, {"1 0a0 0B0", 1, 0, "", "01", true}, {"1 0a0 0B0", 1, 0, "", "1", false}, {"1 0a0 0B0", 2, 0, "", "01", false}, {"1 0a0 0B0", 1, 1, "", "01", false},
		{"1 0a0 0b0", 0, 0, "", "10", true}, {"1 0a0 0b0", 1, 0, "", "10", true}, {"1 0a0 0b0", 1, 1, "", "10", true}, {"1 0a0 0b0", 1, 2, "", "10", false}, {"1 0a0 0b0", 2, 0, "", "10", false}, {"1 0a0 0b0", 2, 1, "", "1", true},
		{ring, 1, 0, "", "01", true}, {ring, 1, 0, "0", "10", true}, {ring, 1, 0, "0101", "0101", true}, {ring, 1, 0, "0", "01", false}, {ring, 1, 0, "", "10", false}, {ring, 1, 0, "01", "10", false},
		{ring, 1, 0, "1", "01", false}, {ring, 1, 0, "1", "10", false}, {ring, 1, 0, "", "0", false}, {ring, 1, 0, "", "010", false}, {ring, 1, 0, "00", "01", false}, {ring, 1, 0, "", "00", false}, // not from 0, not back, no path
		{ring, 0, 0, "", "01", false}, {ring, 1, 1, "", "01", false}, {ring, 1, 2, "", "01", false}, {ring, 2, 0, "", "01", false},
		{"3 1a2 2a1", 0, 0, "", "01", false}, {"3 1a2 2a1", 0, 0, "0", "10", false}, // not reached
		{"3 0A1 1a2 2a1", 0, 0, "0", "12", true}, {"3 0A1 1a2 2a1", 1, 0, "01", "21", true}, {"3 0A1 1a2 2a1", 2, 0, "012", "1212", true}, {"3 0A1 1a2 2a1", 0, 0, "", "012", false}, {"3 0A1 1a2 2a1", 0, 0, "", "12", false},
		{swap, 0, 0, "0", "4", true}, {swap, 1, 1, "0", "4", true}, {swap, 2, 1, "0", "4", true}, {swap, 2, 0, "0", "4", false}, {swap, 1, 1, "", "02", false}, {swap, 1, 1, "", "042", true}, {swap, 1, 0, "", "042", false}, {swap, 2, 1, "", "042", false},
		{swap, 1, 1, "", "04213", false}, // the circle goes through 0 twice, and once b is Done
	} {
		if is, err := progress.Refutes(graph(c.text), c.claim, c.thread, numbers(c.path), numbers(c.circle)); is != c.is || err != api.OK {
			t.Errorf("Refutes(%s, %d, %d, %s, %s): %v, %d", c.text, c.claim, c.thread, c.path, c.circle, is, err)
		}
	}
	for _, none := range [][]int{{-1}, {1}, {0, 1}, {0, -1}, {1 << 62}, {-1 << 63}} {
		if is, err := progress.Refutes(graph(spin), 0, 0, none, []int{0}); is || err != api.OK {
			t.Errorf("Refutes with the path %v: %v, %d", none, is, err)
		}
		if is, err := progress.Refutes(graph(spin), 0, 0, nil, none); is || err != api.OK {
			t.Errorf("Refutes with the circle %v: %v, %d", none, is, err)
		}
	}
	for _, c := range []struct {
		path, circle int
		is           bool
	}{{1000, 1000, true}, {1001, 1, false}, {0, 1001, false}, {1001, 1001, false}, {1000, 0, false}, {9000, 9000, false}} {
		if is, err := progress.Refutes(graph(spin), 0, 0, make([]int, c.path), make([]int, c.circle)); is != c.is || err != api.OK {
			t.Errorf("Refutes with %d and %d moves: %v, %d", c.path, c.circle, is, err)
		}
	}
}

func TestNumbers(t *testing.T) { // P7.5
	for text, want := range map[string]string{ // Everybody, Longest, and Bound of each thread; ! if there is none
		"1": "+0000", "8": "+0000", ring: "-1!00", spin: "-!!00", swap: "-!1!0", line: "+2210",
		"1 0A0 0B0 0C0": "+0000", "1 0a0 0b0 0c0": "-!!!!", "2 1a1": "+0000", "3 1a2": "+0000", "3 2a1 1a2 0A2": "-!!00", "3 2a1 1a0 0A0": "+0000", // what is not reached
		"2 0a1 1A0": "+1100", "2 0a1 1b0 0A0 1B1": "-!!!0", "2 0a1 1C0": "-1!00", "4 0A1 1a2 2A3": "+1100",
		"3 0a1 1b2 2a2 2A2": "-!!10", "5 0a1 1b2 2a3 3b4": "+4220", "5 0a1 1b2 2a3 3b4 4A0": "-42!0", "5 0a1 1b2 2a3 3b4 4A2": "-42!0",
		"5 0a1 1b2 2B3 3b4": "+2110", "5 0b1 1a2 2B3 3b4 4b0": "-4!30", "5 0b1 1a2 2B3 3b4 4b0 1A2": "-4!30", // behind the move that is Done
		"8 0a1 1a2 2a3 3a4 4a5 5a6 6a7": "+7700", "8 0a1 1b2 2c3 3a4 4b5 5c6 6a7": "+7322", "8 7a6 6a5 5a4 4a3 3a2 2a1 0c7": "+7601",
		"3 0b1 1b0 1a2": "-!1!0", "3 0C1 1C0 0a2": "+1100",
	} {
		g := graph(text)
		if is, err := progress.Everybody(g); is != (want[0] == '+') || err != api.OK {
			t.Errorf("Everybody(%s): %v, %d", text, is, err)
		}
		check := func(name string, want byte, n int, err api.Errno) {
			t.Helper()
			if want == '!' && (n != 0 || err != api.ErrNone) || want != '!' && (n != int(want-'0') || err != api.OK) {
				t.Errorf("%s(%s): %d, %d, not %c", name, text, n, err, want)
			}
		}
		n, err := progress.Longest(g)
		check("Longest", want[1], n, err)
		for thread := range 3 {
			n, err := progress.Bound(g, thread)
			check("Bound of "+string("abc"[thread]), want[2+thread], n, err)
		}
	}
}

func TestGraphsMade(t *testing.T) { // P7.6
	for _, c := range []struct {
		text string
		move int
		want string
	}{
		{spin, 0, "1"}, {ring, 0, "2 1B0"}, {ring, 1, "2 0a1"}, {swap, 2, "3 0a1 0b2 2B0 1b1"}, {swap, 4, "3 0a1 0b2 1A0 2B0"}, {"2 0a1 0A1 0b1 0B1", 1, "2 0a1 0b1 0B1"},
	} {
		if h, err := progress.Without(graph(c.text), c.move); !same(h, graph(c.want)) || err != api.OK {
			t.Errorf("Without(%s, %d): %v, %d", c.text, c.move, h, err)
		}
	}
	for _, move := range []int{-1, 2, 20, -1 << 63, 1 << 62} {
		if h, err := progress.Without(graph(ring), move); !isZero(h) || err != api.ErrArg {
			t.Errorf("Without(%d): %v, %d", move, h, err)
		}
	}
	if h, err := progress.Without(graph("3"), 0); !isZero(h) || err != api.ErrArg {
		t.Errorf("Without of no moves: %v, %d", h, err)
	}
	all := "3 2c1 0a1 0A1 1b2 1B2 2C0"
	for _, c := range []struct {
		text string
		a, b int
		want string
	}{
		{all, 0, 0, all}, {all, 1, 1, all}, {all, 2, 2, all}, {"8", 0, 2, "8"}, {ring, 0, 2, "2 0c1 1B0"}, {"1 0a0 0b0", 0, 1, "1 0b0 0a0"},
		{all, 0, 1, "3 2c1 0b1 0B1 1a2 1A2 2C0"}, {all, 1, 0, "3 2c1 0b1 0B1 1a2 1A2 2C0"},
		{all, 0, 2, "3 2a1 0c1 0C1 1b2 1B2 2A0"}, {all, 2, 0, "3 2a1 0c1 0C1 1b2 1B2 2A0"},
		{all, 1, 2, "3 2b1 0a1 0A1 1c2 1C2 2B0"}, {all, 2, 1, "3 2b1 0a1 0A1 1c2 1C2 2B0"},
	} {
		if h, err := progress.Renamed(graph(c.text), c.a, c.b); !same(h, graph(c.want)) || err != api.OK {
			t.Errorf("Renamed(%s, %d, %d): %v, %d", c.text, c.a, c.b, h, err)
		}
	}
	for _, c := range []struct {
		text   string
		thread int
		want   string
	}{
		{all, 0, "3 0a1 0A1"}, {all, 1, "3 1b2 1B2"}, {all, 2, "3 2c1 2C0"}, {spin, 0, spin}, {spin, 1, "1"}, {ring, 1, "2 1B0"}, {"8", 2, "8"},
	} {
		if h, err := progress.Only(graph(c.text), c.thread); !same(h, graph(c.want)) || err != api.OK {
			t.Errorf("Only(%s, %d): %v, %d", c.text, c.thread, h, err)
		}
	}
}
