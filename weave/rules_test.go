package weave_test

import (
	"slices"
	"testing"

	"lineal/api"
	"lineal/weave"
)

// answer is what a call returns: whether everything beside the error is zero, and the error.
type answer struct {
	zero bool
	err  api.Errno
}

func isTrue(is bool, err api.Errno) answer         { return answer{!is, err} }
func number(n int, err api.Errno) answer           { return answer{n == 0, err} }
func listed[T any](list []T, err api.Errno) answer { return answer{len(list) == 0, err} }
func isOnly(a answer, err api.Errno) bool          { return a.zero && a.err == err }
func nowhere() []int                               { return []int{-1 << 62, -1, 3, 9, 1001, 1<<63 - 1} }
func noWords() [][]int {
	return [][]int{{3}, {-1}, {0, 1, 2, 6}, {1 << 62}, make([]int, 11), make([]int, 1000)}
}

// ofWord returns the answers of the functions that take one word, with a number for each further argument.
func ofWord(l api.Letters, w []int, n int) map[string]answer {
	return map[string]answer{
		"Exchanged":    listed(weave.Exchanged(l, w, n)),
		"Projection a": listed(weave.Projection(l, w, n, 0)),
		"Projection b": listed(weave.Projection(l, w, 0, n)),
		"Layers":       listed(weave.Layers(l, w)),
		"First":        listed(weave.First(l, w)),
		"Size":         number(weave.Size(l, w)),
		"Class":        listed(weave.Class(l, w, n)),
		"Starts":       listed(weave.Starts(l, w)),
		"Turned":       listed(weave.Turned(l, w)),
	}
}

// ofWords returns the answers of the functions that take two words.
func ofWords(l api.Letters, w, v []int) map[string]answer {
	return map[string]answer{
		"Equal":  isTrue(weave.Equal(l, w, v)),
		"Path":   listed(weave.Path(l, w, v)),
		"IsPath": isTrue(weave.IsPath(l, w, v, make([]int, 1001))),
		"Joined": listed(weave.Joined(l, w, v)),
		"Begins": isTrue(weave.Begins(l, w, v)),
		"Rest":   listed(weave.Rest(l, w, v)),
		"Common": listed(weave.Common(l, w, v)),
		"Both":   listed(weave.Both(l, w, v)),
	}
}

// check checks that all answers are errors.
func check(t *testing.T, answers map[string]answer, err api.Errno) {
	t.Helper()
	for name, a := range answers {
		if !isOnly(a, err) {
			t.Errorf("%s: %v, not the error %d", name, a, err)
		}
	}
}

func TestErrLetters(t *testing.T) { // P3.1
	for _, l := range invalid() {
		for _, w := range append(noWords(), nil, []int{0}) {
			for _, n := range append(nowhere(), 0) {
				check(t, ofWord(l, w, n), api.ErrLetters)
			}
			check(t, ofWords(l, w, nil), api.ErrLetters)
			check(t, ofWords(l, nil, w), api.ErrLetters)
		}
		for _, n := range append(nowhere(), 0) {
			check(t, map[string]answer{"Depend": isTrue(weave.Depend(l, n, 0))}, api.ErrLetters)
		}
	}
}

func TestErrWord(t *testing.T) { // P3.1
	for _, w := range noWords() {
		for _, n := range append(nowhere(), 0) {
			check(t, ofWord(three(), w, n), api.ErrWord)
		}
		for _, v := range [][]int{nil, {0}, {1}, make([]int, 10)} {
			check(t, ofWords(three(), w, v), api.ErrWord)
			check(t, ofWords(three(), v, w), api.ErrWord)
		}
	}
}

func TestErrArg(t *testing.T) { // P3.1, P3.2, P3.3, P3.5
	for _, n := range nowhere() {
		for name, a := range ofWord(three(), word("2021"), n) {
			far := name == "Exchanged" || name == "Projection a" || name == "Projection b"
			fails := far || name == "Class" && (n < 0 || n > 1000)
			if fails != (a.err == api.ErrArg) || fails && !a.zero || !fails && a.err != api.OK {
				t.Errorf("%s of %d: %v", name, n, a)
			}
		}
	}
}

// TestNothing checks that the empty word is a word as others are.
func TestNothing(t *testing.T) {
	for name, a := range ofWords(letters(1), nil, []int{}) {
		if is := name == "Equal" || name == "Begins"; a.zero == is || a.err != api.OK {
			t.Errorf("%s of nothing: %v", name, a)
		}
	}
	for name, a := range ofWord(letters(1), []int{}, 0) {
		if name == "Exchanged" {
			if !isOnly(a, api.ErrArg) {
				t.Errorf("%s of nothing: %v", name, a)
			}
		} else if a.zero == (name == "Size") || a.err != api.OK {
			t.Errorf("%s of nothing: %v", name, a)
		}
	}
}

// spoil writes over lists, up to their capacity.
func spoil(lists ...[]int) {
	for _, l := range lists {
		l = l[:cap(l)]
		for i := range l {
			l[i] = 9
		}
	}
}

// TestArgumentsStay checks that arguments are neither changed nor kept, that results are new memory, and that lists are read up to their length alone (R4).
func TestArgumentsStay(t *testing.T) {
	l, w, v := three(), word("21029")[:4], word("021029")[:5]
	for range 2 {
		exchanged, _ := weave.Exchanged(l, w, 0)
		path, _ := weave.Path(l, word("201"), word("012"))
		projection, _ := weave.Projection(l, w, 0, 2)
		first, _ := weave.First(l, w)
		joined, _ := weave.Joined(l, w, v)
		rest, _ := weave.Rest(l, nil, w)
		common, _ := weave.Common(l, w, w)
		both, _ := weave.Both(l, w, nil)
		starts, _ := weave.Starts(l, w)
		turned, _ := weave.Turned(l, word("102"))
		got := [][]int{exchanged, projection, first, joined, rest, common, both, starts, turned}
		want := words("1202", "202", "1022", "100121222", "1022", "1022", "1022", "12", "012")
		want[3], _ = weave.First(l, slices.Concat(w, v))
		if !sameWords(got, want) || len(path) == 0 {
			t.Fatalf("results: %v, %v", got, path)
		}
		spoil(append(got, path)...)
		layers, _ := weave.Layers(l, w)
		class, _ := weave.Class(l, w, 4)
		if !sameWords(layers, words("12", "02")) || !sameWords(class, words("1022", "1202", "1220", "2102")) {
			t.Fatalf("layers and class: %v, %v", layers, class)
		}
		for i := range layers {
			spoil(layers[i])
			if !sameWords(layers[i+1:], words("12", "02")[i+1:]) {
				t.Fatalf("layers share memory: %v", layers)
			}
		}
		for i := range class {
			spoil(class[i])
			if !sameWords(class[i+1:], words("1022", "1202", "1220", "2102")[i+1:]) {
				t.Fatalf("words share memory: %v", class)
			}
		}
		if !slices.Equal(w[:5], word("21029")) || !slices.Equal(v[:6], word("021029")) || !slices.Equal(l.Pairs, three().Pairs) {
			t.Fatalf("an argument is changed: %v, %v, %v", l, w[:5], v[:6])
		}
	}
}
