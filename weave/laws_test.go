package weave_test

import (
	"math/rand/v2"
	"slices"
	"testing"

	"lineal/api"
	"lineal/weave"
)

// tied tells by the pairs whether two letters depend on each other.
func tied(l api.Letters, a, b int) bool {
	return a == b || slices.Contains(l.Pairs, [2]int{min(a, b), max(a, b)})
}

// kinds returns all letters of a number.
func kinds(n int) []api.Letters {
	pairs := all(n).Pairs
	var list []api.Letters
	for set := range 1 << len(pairs) {
		l := letters(n)
		for i, p := range pairs {
			if set>>i&1 == 1 {
				l.Pairs = append(l.Pairs, p)
			}
		}
		list = append(list, l)
	}
	return list
}

// allWords returns all words of n letters that have at most `most` of them, by length, then in ascending order.
func allWords(n, most int) [][]int {
	list := [][]int{nil}
	for at := 0; at < len(list) && len(list[at]) < most; at++ {
		for letter := range n {
			list = append(list, append(slices.Clone(list[at]), letter))
		}
	}
	return list
}

// sample is letters, and words of them.
type sample struct {
	l     api.Letters
	words [][]int
}

// small returns letters with all their short words.
func small() []sample {
	var list []sample
	for i, most := range []int{4, 4, 4, 3} {
		for _, l := range kinds(i + 1) {
			list = append(list, sample{l, allWords(l.N, most)})
		}
	}
	return list
}

// large returns letters with a few long words, which often begin alike.
func large(count int) []sample {
	r := rand.New(rand.NewPCG(3, 7))
	var list []sample
	for range count {
		n := 3 + r.IntN(4)
		s := sample{l: letters(n)}
		for _, p := range all(n).Pairs {
			if r.IntN(3) > 0 {
				s.l.Pairs = append(s.l.Pairs, p)
			}
		}
		r.Shuffle(len(s.l.Pairs), func(i, k int) { s.l.Pairs[i], s.l.Pairs[k] = s.l.Pairs[k], s.l.Pairs[i] })
		begin := drawn(r, n, r.IntN(7))
		for range 4 {
			w := slices.Concat(begin, drawn(r, n, r.IntN(11-len(begin))))
			mixed, _ := walked(r, s.l, w, 20)
			s.words = append(s.words, mixed)
		}
		list = append(list, s)
	}
	return list
}

// drawn returns some word.
func drawn(r *rand.Rand, n, length int) []int {
	var w []int
	for range length {
		w = append(w, r.IntN(n))
	}
	return w
}

// walked does some exchanges of a word, and returns the word behind them and their places.
func walked(r *rand.Rand, l api.Letters, w []int, tries int) ([]int, []int) {
	w = slices.Clone(w)
	var places []int
	for range tries {
		if len(w) < 2 {
			break
		}
		at := r.IntN(len(w) - 1)
		if !tied(l, w[at], w[at+1]) {
			w[at], w[at+1] = w[at+1], w[at]
			places = append(places, at)
		}
	}
	return w, places
}

// spell names a word, for maps.
func spell(w []int) string {
	name := ""
	for _, letter := range w {
		name += string(rune('0' + letter))
	}
	return name
}

// exchanges finds the class of a word by exchanges alone: how many each word of it needs, at least.
func exchanges(l api.Letters, w []int) map[string]int {
	steps := map[string]int{spell(w): 0}
	for list := [][]int{w}; len(list) > 0; list = list[1:] {
		for at := 0; at+1 < len(list[0]); at++ {
			next := slices.Clone(list[0])
			next[at], next[at+1] = next[at+1], next[at]
			if _, seen := steps[spell(next)]; !seen && !tied(l, next[at], next[at+1]) {
				steps[spell(next)] = steps[spell(list[0])] + 1
				list = append(list, next)
			}
		}
	}
	return steps
}

// classOf returns the words that exchanges reach, in ascending order.
func classOf(l api.Letters, w []int) [][]int {
	var list [][]int
	for name := range exchanges(l, w) {
		list = append(list, word(name))
	}
	slices.SortFunc(list, slices.Compare)
	return list
}

func TestClassIsWhatExchangesReach(t *testing.T) { // P3.4, P3.5, P3.11
	for _, s := range append(small(), large(150)...) {
		for _, w := range s.words {
			if n, err := weave.Size(s.l, w); n > 2000 && err == api.OK {
				continue // TestSizeIsASum looks at these
			}
			want := classOf(s.l, w)
			if n, err := weave.Size(s.l, w); n != len(want) || err != api.OK {
				t.Fatalf("%v: Size(%v): %d, %d, not %d", s.l, w, n, err, len(want))
			}
			for _, most := range []int{0, 1, len(want) / 2, 1000} {
				if l, err := weave.Class(s.l, w, min(most, 1000)); !sameWords(l, want[:min(most, len(want))]) || err != api.OK {
					t.Fatalf("%v: Class(%v, %d): %v, %d, not %v", s.l, w, most, l, err, want)
				}
			}
			if first, err := weave.First(s.l, w); !slices.Equal(first, want[0]) || err != api.OK {
				t.Fatalf("%v: First(%v): %v, %d", s.l, w, first, err)
			}
			var starts []int
			for _, v := range want {
				starts = append(starts, v[:min(1, len(v))]...)
			}
			if l, err := weave.Starts(s.l, w); !slices.Equal(l, slices.Compact(starts)) || err != api.OK {
				t.Fatalf("%v: Starts(%v): %v, %d", s.l, w, l, err)
			}
		}
	}
}

func TestSizeIsASum(t *testing.T) { // P3.11
	for _, s := range append(small(), large(1000)...) {
		for _, w := range s.words {
			size, _ := weave.Size(s.l, w)
			starts, _ := weave.Starts(s.l, w)
			sum := 0
			for _, letter := range starts {
				at := slices.Index(w, letter)
				part, _ := weave.Size(s.l, slices.Concat(w[:at], w[at+1:]))
				sum += part
			}
			if len(w) > 0 && size != sum || len(w) == 0 && size != 1 {
				t.Fatalf("%v: Size(%v): %d, not %d", s.l, w, size, sum)
			}
			turned, _ := weave.Turned(s.l, w)
			if n, err := weave.Size(s.l, turned); n != size || err != api.OK {
				t.Fatalf("%v: Size(%v): %d, turned %d", s.l, w, size, n)
			}
		}
	}
}

func TestTurned(t *testing.T) { // P3.8
	for _, s := range append(small(), large(1000)...) {
		for _, w := range s.words {
			turned, err := weave.Turned(s.l, w)
			back := slices.Clone(w)
			slices.Reverse(back)
			if first, _ := weave.First(s.l, back); !slices.Equal(turned, first) || err != api.OK {
				t.Fatalf("%v: Turned(%v): %v, %d", s.l, w, turned, err)
			}
		}
	}
}

// projections tells whether two words have equal projections to all letters that depend on each other, and to each letter.
func projections(l api.Letters, w, v []int) bool {
	for a := range l.N {
		for b := range a + 1 {
			of, _ := weave.Projection(l, w, a, b)
			other, _ := weave.Projection(l, v, a, b)
			if tied(l, a, b) && !slices.Equal(of, other) {
				return false
			}
		}
	}
	return true
}

func TestClassesAreTold(t *testing.T) { // P3.3, P3.4, P3.9, P4
	for _, s := range append(small(), large(150)...) {
		for _, w := range s.words {
			layers, _ := weave.Layers(s.l, w)
			first, _ := weave.First(s.l, w)
			if n, _ := weave.Size(s.l, w); n > 2000 {
				continue
			}
			reached := exchanges(s.l, w)
			for _, v := range s.words {
				least, want := reached[spell(v)]
				of, _ := weave.Layers(s.l, v)
				other, _ := weave.First(s.l, v)
				is, err := weave.Equal(s.l, w, v)
				if is != want || sameWords(layers, of) != want || slices.Equal(first, other) != want || projections(s.l, w, v) != want || err != api.OK {
					t.Fatalf("%v: Equal(%v, %v): %v, %d", s.l, w, v, is, err)
				}
				places, err := weave.Path(s.l, w, v)
				if !want {
					if len(places) > 0 || err != api.ErrNone {
						t.Fatalf("%v: Path(%v, %v): %v, %d", s.l, w, v, places, err)
					}
					continue
				}
				if is, e := weave.IsPath(s.l, w, v, places); !is || e != api.OK || err != api.OK || len(places) > 45 {
					t.Fatalf("%v: Path(%v, %v): %v, %d", s.l, w, v, places, err)
				}
				if more := len(places) - least; more < 0 || more%2 != 0 {
					t.Fatalf("%v: Path(%v, %v): %v, where %d are enough", s.l, w, v, places, least)
				}
			}
		}
	}
}

func TestPathsThatAreWalked(t *testing.T) { // P3.3, P3.9
	r := rand.New(rand.NewPCG(5, 11))
	for _, s := range large(1000) {
		for _, w := range s.words {
			v, walk := walked(r, s.l, w, 100)
			if is, err := weave.IsPath(s.l, w, v, walk); !is || err != api.OK {
				t.Fatalf("%v: IsPath(%v, %v, %v): %v, %d", s.l, w, v, walk, is, err)
			}
			places, err := weave.Path(s.l, w, v)
			if is, e := weave.IsPath(s.l, w, v, places); !is || e != api.OK || err != api.OK || len(places) > 45 || (len(walk)-len(places))%2 != 0 {
				t.Fatalf("%v: Path(%v, %v): %v, %d", s.l, w, v, places, err)
			}
			for _, at := range walk {
				var err api.Errno
				w, err = weave.Exchanged(s.l, w, at)
				if err != api.OK {
					t.Fatalf("%v: Exchanged(%v, %d): %d", s.l, w, at, err)
				}
			}
			if !slices.Equal(w, v) {
				t.Fatalf("%v: Exchanged leads to %v, not %v", s.l, w, v)
			}
		}
	}
}

// placed puts the letters of a word into layers as the chapter says it.
func placed(l api.Letters, w []int) [][]int {
	at := make([]int, len(w))
	layers := make([][]int, len(w))
	for i := range w {
		for k := range i {
			if tied(l, w[i], w[k]) {
				at[i] = max(at[i], at[k]+1)
			}
		}
		layers[at[i]] = append(layers[at[i]], w[i])
	}
	for _, layer := range layers {
		slices.Sort(layer)
	}
	return slices.DeleteFunc(layers, func(layer []int) bool { return len(layer) == 0 })
}

func TestLayers(t *testing.T) { // P3.4, P3.10
	for _, s := range append(small(), large(1000)...) {
		for _, w := range s.words {
			want := placed(s.l, w)
			layers, err := weave.Layers(s.l, w)
			if !sameWords(layers, want) || err != api.OK {
				t.Fatalf("%v: Layers(%v): %v, %d, not %v", s.l, w, layers, err, want)
			}
			if is, _ := weave.Equal(s.l, w, slices.Concat(layers...)); !is {
				t.Fatalf("%v: Layers(%v): %v", s.l, w, layers)
			}
			checkLayers(t, s.l, layers)
		}
	}
}

// checkLayers checks that the letters of a layer do not depend on each other, and that each depends on one of the layer in front of it.
func checkLayers(t *testing.T, l api.Letters, layers [][]int) {
	for i, layer := range layers {
		for k, letter := range layer {
			on := func(other int) bool { return tied(l, letter, other) }
			if slices.ContainsFunc(layer[:k], on) || i > 0 && !slices.ContainsFunc(layers[i-1], on) {
				t.Fatalf("%v: layers %v", l, layers)
			}
		}
	}
}

// beginnings finds all classes that begin a word, by name, each with the first form of the rest: all that is in front of a place of a word of the class.
func beginnings(l api.Letters, w []int) map[string][]int {
	rests := map[string][]int{}
	for _, v := range classOf(l, w) {
		for at := range len(v) + 1 {
			rests[spell(classOf(l, v[:at])[0])] = classOf(l, v[at:])[0]
		}
	}
	return rests
}

func TestBeginnings(t *testing.T) { // P3.6, P3.7, P3.12
	for _, s := range small() {
		var rests []map[string][]int
		var firsts []string
		for _, w := range s.words {
			rests = append(rests, beginnings(s.l, w))
			firsts = append(firsts, spell(classOf(s.l, w)[0]))
		}
		for i, w := range s.words {
			for k, u := range s.words {
				want, begins := rests[i][firsts[k]]
				rest, err := weave.Rest(s.l, u, w)
				if begins != (err == api.OK) || !begins && err != api.ErrNone || !slices.Equal(rest, want) {
					t.Fatalf("%v: Rest(%v, %v): %v, %d, not %v", s.l, u, w, rest, err, want)
				}
				if is, e := weave.Begins(s.l, u, w); is != begins || e != api.OK {
					t.Fatalf("%v: Begins(%v, %v): %v, %d", s.l, u, w, is, e)
				}
				longest := ""
				for name := range rests[i] {
					if _, other := rests[k][name]; other && len(name) > len(longest) {
						longest = name
					}
				}
				if common, e := weave.Common(s.l, w, u); !slices.Equal(common, word(longest)) || e != api.OK {
					t.Fatalf("%v: Common(%v, %v): %v, %d", s.l, w, u, common, e)
				}
			}
		}
	}
}

// TestBothIsTheShortest looks, by length, through all words that have at most as many letters as two short words together:
// the shortest word that both begin has no letters but theirs.
func TestBothIsTheShortest(t *testing.T) { // P3.7, P3.12
	for _, l := range append(kinds(2), kinds(3)...) {
		var forms [][]int // the first form of each class
		var rests []map[string][]int
		for _, z := range allWords(l.N, 6) {
			if slices.Equal(classOf(l, z)[0], z) {
				forms = append(forms, z)
				rests = append(rests, beginnings(l, z))
			}
		}
		list := allWords(l.N, 3)
		firsts := make([]string, len(list))
		for i, w := range list {
			firsts[i] = spell(classOf(l, w)[0])
		}
		for i, w := range list {
			for k, v := range list {
				at := slices.IndexFunc(rests, func(begin map[string][]int) bool {
					_, one := begin[firsts[i]]
					_, other := begin[firsts[k]]
					return one && other
				})
				both, err := weave.Both(l, w, v)
				if at < 0 && (len(both) > 0 || err != api.ErrNone) || at >= 0 && (!slices.Equal(both, forms[at]) || err != api.OK) {
					t.Fatalf("%v: Both(%v, %v): %v, %d, not %d of %v", l, w, v, both, err, at, forms)
				}
			}
		}
	}
}

func TestCommonAndBothTogether(t *testing.T) { // P3.12
	r := rand.New(rand.NewPCG(2, 9))
	for _, s := range large(1000) {
		for _, w := range s.words {
			for _, v := range s.words {
				common, err := weave.Common(s.l, w, v)
				checkBegins(t, s.l, common, w)
				checkBegins(t, s.l, common, v)
				if back, _ := weave.Common(s.l, v, w); !slices.Equal(back, common) || err != api.OK {
					t.Fatalf("%v: Common(%v, %v): %v, %d, turned round %v", s.l, w, v, common, err, back)
				}
				mixed, _ := walked(r, s.l, w, 100)
				part := mixed[:r.IntN(len(mixed)+1)]
				if is, _ := weave.Begins(s.l, part, v); is {
					checkBegins(t, s.l, part, common)
				}
				checkBoth(t, s.l, w, v, len(common))
			}
		}
	}
}

// checkBegins checks that u begins w, and that u and the rest together are w.
func checkBegins(t *testing.T, l api.Letters, u, w []int) {
	rest, err := weave.Rest(l, u, w)
	joined, e := weave.Joined(l, u, rest)
	first, _ := weave.First(l, w)
	if is, _ := weave.Begins(l, u, w); !is || err != api.OK || e != api.OK || !slices.Equal(joined, first) {
		t.Fatalf("%v: Begins(%v, %v): %v; the rest: %v, %d", l, u, w, is, rest, err)
	}
}

// isBegun tells whether there is a word, however long, that two words begin: of any two projections to letters that depend on each other one must begin with the other one.
func isBegun(l api.Letters, w, v []int) bool {
	for a := range l.N {
		for b := range a + 1 {
			of, _ := weave.Projection(l, w, a, b)
			other, _ := weave.Projection(l, v, a, b)
			short := min(len(of), len(other))
			if tied(l, a, b) && !slices.Equal(of[:short], other[:short]) {
				return false
			}
		}
	}
	return true
}

// checkBoth checks Both of words whose Common has so many letters.
func checkBoth(t *testing.T, l api.Letters, w, v []int, common int) {
	want := api.OK
	if !isBegun(l, w, v) {
		want = api.ErrNone
	} else if len(w)+len(v)-common > api.MaxLength {
		want = api.ErrLimit
	}
	both, err := weave.Both(l, w, v)
	if back, e := weave.Both(l, v, w); !slices.Equal(back, both) || e != err {
		t.Fatalf("%v: Both(%v, %v): %v, %d, turned round %v, %d", l, w, v, both, err, back, e)
	}
	if err != want || want == api.OK && len(both)+common != len(w)+len(v) || want != api.OK && len(both) > 0 {
		t.Fatalf("%v: Both(%v, %v): %v, %d, not %d", l, w, v, both, err, want)
	}
	if want == api.OK {
		checkBegins(t, l, w, both)
		checkBegins(t, l, v, both)
	}
}

// TestBothIfThereIsOne checks that what two parts of one word have Both, and that it begins this word.
func TestBothIfThereIsOne(t *testing.T) { // P3.7, P3.12
	r := rand.New(rand.NewPCG(4, 4))
	for _, s := range large(1000) {
		for _, z := range s.words {
			one, _ := walked(r, s.l, z, 100)
			other, _ := walked(r, s.l, z, 100)
			w, v := one[:r.IntN(len(z)+1)], other[:r.IntN(len(z)+1)]
			both, err := weave.Both(s.l, w, v)
			if err != api.OK {
				t.Fatalf("%v: Both(%v, %v): %v, %d, but both begin %v", s.l, w, v, both, err, z)
			}
			checkBegins(t, s.l, both, z)
		}
	}
}

func TestJoinedInBrackets(t *testing.T) { // P3.6, P3.13
	r := rand.New(rand.NewPCG(1, 8))
	for _, s := range large(2000) {
		x, y, z := drawn(r, s.l.N, r.IntN(4)), drawn(r, s.l.N, r.IntN(4)), drawn(r, s.l.N, r.IntN(4))
		xy, _ := weave.Joined(s.l, x, y)
		yz, _ := weave.Joined(s.l, y, z)
		one, err := weave.Joined(s.l, xy, z)
		other, e := weave.Joined(s.l, x, yz)
		if first, _ := weave.First(s.l, slices.Concat(x, y, z)); !slices.Equal(one, first) || !slices.Equal(other, first) || err != api.OK || e != api.OK {
			t.Fatalf("%v: Joined(%v, %v, %v): %v, %d or %v, %d", s.l, x, y, z, one, err, other, e)
		}
	}
}
