package weave_test

import (
	"slices"
	"testing"

	"lineal/api"
	"lineal/weave"
)

// letters makes letters of a number and pairs.
func letters(n int, pairs ...[2]int) api.Letters { return api.Letters{N: n, Pairs: pairs} }

// three returns three letters, of which 0 and 1 depend on each other.
func three() api.Letters { return letters(3, [2]int{0, 1}) }

// row returns six letters, each of which depends on the next one.
func row() api.Letters {
	return letters(6, [2]int{3, 4}, [2]int{0, 1}, [2]int{4, 5}, [2]int{1, 2}, [2]int{2, 3})
}

// all returns letters that all depend on each other.
func all(n int) api.Letters {
	l := letters(n)
	for b := range n {
		for a := range b {
			l.Pairs = append(l.Pairs, [2]int{a, b})
		}
	}
	return l
}

// word makes a word of digits.
func word(digits string) []int {
	var w []int
	for _, d := range digits {
		w = append(w, int(d-'0'))
	}
	return w
}

// words makes a list of words of digits.
func words(digits ...string) [][]int {
	var list [][]int
	for _, d := range digits {
		list = append(list, word(d))
	}
	return list
}

func sameWords(a, b [][]int) bool { return slices.EqualFunc(a, b, slices.Equal) }

// invalid returns letters that are not valid, each for another reason.
func invalid() map[string]api.Letters {
	return map[string]api.Letters{
		"zero":                 {},
		"none":                 letters(-1),
		"far below":            letters(-1 << 62),
		"seven":                letters(api.MaxLetters + 1),
		"seven, with pairs":    all(api.MaxLetters + 1),
		"far above":            letters(1 << 62),
		"turned":               letters(2, [2]int{1, 0}),
		"a letter with itself": letters(2, [2]int{1, 1}),
		"no such letter":       letters(2, [2]int{0, 2}),
		"no letter of seven":   letters(6, [2]int{0, 6}),
		"below":                letters(2, [2]int{-1, 1}),
		"far":                  letters(2, [2]int{-1 << 62, 1 << 62}),
		"twice":                letters(3, [2]int{0, 1}, [2]int{1, 2}, [2]int{0, 1}),
		"the last is none":     letters(3, [2]int{0, 1}, [2]int{1, 2}, [2]int{2, 1}),
		"a thousand pairs":     letters(2, make([][2]int, 1000)...),
	}
}

func TestValid(t *testing.T) { // P3.2
	for _, l := range []api.Letters{letters(1), letters(6), three(), row(), all(2), all(6), {N: 2, Pairs: [][2]int{}}, {N: 2, Pairs: make([][2]int, 5)[:0]}} {
		if !weave.Valid(l) {
			t.Errorf("Valid(%v) is false", l)
		}
	}
	for name, l := range invalid() {
		if weave.Valid(l) {
			t.Errorf("%s: Valid(%v) is true", name, l)
		}
	}
}

func TestDepend(t *testing.T) { // P3.2
	for _, l := range []api.Letters{letters(1), letters(6), three(), row(), all(6)} {
		for a := -1; a < 8; a++ {
			for b := -1; b < 8; b++ {
				is, err := weave.Depend(l, a, b)
				if a < 0 || b < 0 || a >= l.N || b >= l.N {
					if is || err != api.ErrArg {
						t.Errorf("Depend(%v, %d, %d): %v, %d", l, a, b, is, err)
					}
				} else if is != tied(l, a, b) || err != api.OK {
					t.Errorf("Depend(%v, %d, %d): %v, %d", l, a, b, is, err)
				}
			}
		}
	}
}

func TestExchanged(t *testing.T) { // P3.2
	far := 1<<63 - 1
	for _, c := range []struct {
		w    string
		at   int
		want string
	}{
		{"021", 0, "201"}, {"201", 0, "021"}, {"021", 1, "012"}, {"0220", 2, "0202"}, {"0000000002", 8, "0000000020"},
		{"01", 0, ""}, {"10", 0, ""}, {"22", 0, ""}, {"0220", 1, ""},
		{"02", -1, ""}, {"02", 1, ""}, {"02", 2, ""}, {"02", far, ""}, {"02", -far - 1, ""}, {"2", 0, ""}, {"", 0, ""}, {"", -1, ""},
	} {
		err := api.OK
		if c.want == "" {
			err = api.ErrArg
		}
		if w, e := weave.Exchanged(three(), word(c.w), c.at); !slices.Equal(w, word(c.want)) || e != err {
			t.Errorf("Exchanged(%s, %d): %v, %d", c.w, c.at, w, e)
		}
	}
}

func TestEqual(t *testing.T) { // P3.3
	for _, c := range []struct {
		l    api.Letters
		w, v string
		is   bool
	}{
		{three(), "021", "201", true}, {three(), "021", "120", false}, {three(), "", "", true}, {three(), "", "0", false},
		{three(), "02", "0", false}, {three(), "0", "02", false}, {three(), "0", "2", false}, {three(), "0022", "2200", true}, {three(), "002", "022", false},
		{all(6), "0123454321", "0123454321", true}, {all(6), "01", "10", false},
		{row(), "012345", "012354", false}, {row(), "024135", "420135", true}, {row(), "135024", "531042", true},
	} {
		if is, e := weave.Equal(c.l, word(c.w), word(c.v)); is != c.is || e != api.OK {
			t.Errorf("Equal(%s, %s): %v, %d", c.w, c.v, is, e)
		}
		places, e := weave.Path(c.l, word(c.w), word(c.v))
		if c.is && e != api.OK || !c.is && e != api.ErrNone || !c.is && len(places) > 0 {
			t.Errorf("Path(%s, %s): %v, %d", c.w, c.v, places, e)
		}
		if is, e := weave.IsPath(c.l, word(c.w), word(c.v), places); is != c.is || e != api.OK {
			t.Errorf("IsPath(%s, %s, %v): %v, %d", c.w, c.v, places, is, e)
		}
	}
}

// TestLongestPath checks that a word can be turned round by no more places than a path has.
func TestLongestPath(t *testing.T) { // P3.3
	w, v := word("4433221100"), word("0011223344")
	places, err := weave.Path(letters(5), w, v)
	if is, e := weave.IsPath(letters(5), w, v, places); !is || err != api.OK || e != api.OK || len(places) > 45 {
		t.Errorf("Path: %v, %d, %v, %d", places, err, is, e)
	}
}

func TestIsPath(t *testing.T) { // P3.3
	for _, c := range []struct {
		w, v string
		path []int
		is   bool
	}{
		{"021", "201", []int{0}, true}, {"021", "201", []int{0, 0, 0}, true}, {"021", "201", []int{1, 1, 0}, true},
		{"021", "021", nil, true}, {"021", "021", []int{0, 0}, true}, {"", "", nil, true}, {"012", "201", []int{1, 0}, true},
		{"012", "201", []int{0, 1}, false}, {"012", "201", []int{1}, false}, {"012", "201", []int{1, 0, 0}, false},
		{"021", "201", nil, false}, {"021", "201", []int{-1}, false}, {"021", "201", []int{0, 2}, false}, {"021", "201", []int{0, 1 << 62}, false},
		{"01", "10", []int{0}, false}, {"22", "22", []int{0}, false}, {"02", "020", nil, false}, {"020", "02", nil, false}, {"", "0", nil, false},
		{"02", "02", make([]int, 1000), true}, {"02", "20", make([]int, 999), true}, {"02", "20", make([]int, 1001), false}, {"02", "02", make([]int, 1002), false},
	} {
		if is, e := weave.IsPath(three(), word(c.w), word(c.v), c.path); is != c.is || e != api.OK {
			t.Errorf("IsPath(%s, %s) of %d places: %v, %d", c.w, c.v, len(c.path), is, e)
		}
	}
}

func TestProjection(t *testing.T) { // P3.3
	for _, c := range []struct {
		w    string
		a, b int
		want string
	}{
		{"02120", 0, 1, "010"}, {"02120", 1, 0, "010"}, {"02120", 2, 2, "22"}, {"02120", 0, 2, "0220"}, {"02120", 1, 1, "1"},
		{"0202", 1, 1, ""}, {"", 0, 1, ""}, {"2222222221", 2, 1, "2222222221"},
	} {
		if w, e := weave.Projection(three(), word(c.w), c.a, c.b); !slices.Equal(w, word(c.want)) || e != api.OK {
			t.Errorf("Projection(%s, %d, %d): %v, %d", c.w, c.a, c.b, w, e)
		}
	}
	for _, c := range [][2]int{{-1, 0}, {0, -1}, {3, 0}, {0, 3}, {1 << 62, 1 << 62}, {-1 << 62, 2}} {
		if w, e := weave.Projection(three(), word("012"), c[0], c[1]); len(w) > 0 || e != api.ErrArg {
			t.Errorf("Projection(%d, %d): %v, %d", c[0], c[1], w, e)
		}
	}
}

// classes are words with what is told of their classes.
func classes() []struct {
	l                        api.Letters
	w, first, starts, turned string
	layers                   [][]int
	size                     int
} {
	return []struct {
		l                        api.Letters
		w, first, starts, turned string
		layers                   [][]int
		size                     int
	}{
		{three(), "", "", "", "", nil, 1},
		{three(), "201", "012", "02", "102", words("02", "1"), 3},
		{three(), "2", "2", "2", "2", words("2"), 1},
		{three(), "222", "222", "2", "222", words("2", "2", "2"), 1},
		{three(), "0210", "0102", "02", "0102", words("02", "1", "0"), 4},
		{three(), "2200", "0022", "02", "0022", words("02", "02"), 6},
		{letters(1), "0000000000", "0000000000", "0", "0000000000", words("0", "0", "0", "0", "0", "0", "0", "0", "0", "0"), 1},
		{all(3), "2100122102", "2100122102", "2", "2012210012", words("2", "1", "0", "0", "1", "2", "2", "1", "0", "2"), 1},
		{row(), "543210", "543210", "5", "012345", words("5", "4", "3", "2", "1", "0"), 1},
		{row(), "531420", "103254", "135", "021435", words("135", "024"), 61},
		{row(), "520", "025", "025", "025", words("025"), 6},
		{letters(6), "5544332210", "0122334455", "012345", "0122334455", words("012345", "2345"), 226800},
	}
}

func TestClasses(t *testing.T) { // P3.4, P3.5, P3.8
	for _, c := range classes() {
		if w, e := weave.First(c.l, word(c.w)); !slices.Equal(w, word(c.first)) || e != api.OK {
			t.Errorf("First(%s): %v, %d", c.w, w, e)
		}
		if l, e := weave.Layers(c.l, word(c.w)); !sameWords(l, c.layers) || e != api.OK {
			t.Errorf("Layers(%s): %v, %d", c.w, l, e)
		}
		if n, e := weave.Size(c.l, word(c.w)); n != c.size || e != api.OK {
			t.Errorf("Size(%s): %d, %d", c.w, n, e)
		}
		if l, e := weave.Starts(c.l, word(c.w)); !slices.Equal(l, word(c.starts)) || e != api.OK {
			t.Errorf("Starts(%s): %v, %d", c.w, l, e)
		}
		if w, e := weave.Turned(c.l, word(c.w)); !slices.Equal(w, word(c.turned)) || e != api.OK {
			t.Errorf("Turned(%s): %v, %d", c.w, w, e)
		}
		l, e := weave.Class(c.l, word(c.w), 1000)
		if len(l) != min(c.size, 1000) || !slices.Equal(l[0], word(c.first)) || e != api.OK {
			t.Errorf("Class(%s): %d words, %d", c.w, len(l), e)
		}
	}
}

func TestClass(t *testing.T) { // P3.5
	for _, c := range []struct {
		l    api.Letters
		w    string
		most int
		want [][]int
	}{
		{three(), "201", 1000, words("012", "021", "201")},
		{three(), "201", 3, words("012", "021", "201")},
		{three(), "201", 2, words("012", "021")},
		{three(), "201", 1, words("012")},
		{three(), "201", 0, nil},
		{three(), "", 0, nil},
		{three(), "", 1, words("")},
		{three(), "", 1000, words("")},
		{letters(6), "5544332210", 3, words("0122334455", "0122334545", "0122334554")},
	} {
		if l, e := weave.Class(c.l, word(c.w), c.most); !sameWords(l, c.want) || e != api.OK {
			t.Errorf("Class(%s, %d): %v, %d", c.w, c.most, l, e)
		}
	}
	for _, most := range []int{-1, 1001, 1 << 62, -1 << 62} {
		if l, e := weave.Class(three(), nil, most); len(l) > 0 || e != api.ErrArg {
			t.Errorf("Class(%d): %v, %d", most, l, e)
		}
	}
}

func TestJoined(t *testing.T) { // P3.6
	for _, c := range []struct {
		w, v, want string
		err        api.Errno
	}{
		{"21", "02", "1022", api.OK}, {"", "", "", api.OK}, {"20", "", "02", api.OK}, {"", "20", "02", api.OK},
		{"22222", "00000", "0000022222", api.OK}, {"", "2222200000", "0000022222", api.OK},
		{"000000", "00000", "", api.ErrLimit}, {"0000000000", "1", "", api.ErrLimit}, {"0000000000", "1111111111", "", api.ErrLimit},
	} {
		if w, e := weave.Joined(three(), word(c.w), word(c.v)); !slices.Equal(w, word(c.want)) || e != c.err {
			t.Errorf("Joined(%s, %s): %v, %d", c.w, c.v, w, e)
		}
	}
}

func TestRest(t *testing.T) { // P3.6
	for _, c := range []struct {
		u, w, rest string
		err        api.Errno
	}{
		{"2", "012", "01", api.OK}, {"", "20", "02", api.OK}, {"", "", "", api.OK}, {"20", "0212", "12", api.OK}, {"12", "21", "", api.OK},
		{"0", "2201", "122", api.OK}, {"01", "2012", "22", api.OK}, {"22222", "0101022222", "01010", api.OK},
		{"1", "012", "", api.ErrNone}, {"10", "01", "", api.ErrNone}, {"00", "0", "", api.ErrNone}, {"0", "", "", api.ErrNone}, {"00", "010", "", api.ErrNone},
		{"022", "0212", "1", api.OK}, {"0222", "0212", "", api.ErrNone}, {"0000000000", "000000000", "", api.ErrNone},
	} {
		if is, e := weave.Begins(three(), word(c.u), word(c.w)); is != (c.err == api.OK) || e != api.OK {
			t.Errorf("Begins(%s, %s): %v, %d", c.u, c.w, is, e)
		}
		if r, e := weave.Rest(three(), word(c.u), word(c.w)); !slices.Equal(r, word(c.rest)) || e != c.err {
			t.Errorf("Rest(%s, %s): %v, %d", c.u, c.w, r, e)
		}
	}
}

func TestCommonAndBoth(t *testing.T) { // P3.7
	for _, c := range []struct {
		l                  api.Letters
		w, v, common, both string
		err                api.Errno
	}{
		{three(), "02", "21", "2", "", api.ErrNone},
		{three(), "", "", "", "", api.OK},
		{three(), "20", "", "", "02", api.OK},
		{three(), "02", "22", "2", "022", api.OK},
		{three(), "012", "20", "02", "012", api.OK},
		{three(), "0", "1", "", "", api.ErrNone},
		{three(), "20", "02", "02", "02", api.OK},
		{three(), "001", "010", "0", "", api.ErrNone},
		{three(), "2101", "2222", "2", "1012222", api.OK},
		{three(), "00000", "22222", "", "0000022222", api.OK},
		{three(), "000000", "22222", "", "", api.ErrLimit},
		{three(), "200000", "22222", "2", "0000022222", api.OK},
		{three(), "2000000000", "0000000002", "0000000002", "0000000002", api.OK},
		{three(), "0000000000", "2222222222", "", "", api.ErrLimit},
		{three(), "0000000000", "1111111111", "", "", api.ErrNone},
		{three(), "0000000001", "0000000000", "000000000", "", api.ErrNone},
		{three(), "0222222", "1222222", "222222", "", api.ErrNone},
		{three(), "0000001", "2222222", "", "", api.ErrLimit},
		{row(), "024", "135", "", "", api.ErrNone},
		{row(), "035", "0352", "035", "0325", api.OK},
		{row(), "0242", "4205", "024", "02245", api.OK},
		{letters(6), "543210", "012345", "012345", "012345", api.OK},
	} {
		if w, e := weave.Common(c.l, word(c.w), word(c.v)); !slices.Equal(w, word(c.common)) || e != api.OK {
			t.Errorf("Common(%s, %s): %v, %d", c.w, c.v, w, e)
		}
		if w, e := weave.Both(c.l, word(c.w), word(c.v)); !slices.Equal(w, word(c.both)) || e != c.err {
			t.Errorf("Both(%s, %s): %v, %d", c.w, c.v, w, e)
		}
	}
}
