package weave

import (
	"iter"
	"slices"

	"lineal/api"
)

// key is a word as an array, which a map can have as a key: each letter is one more than its number, so that the zeros behind a word are no letters.
type key [api.MaxLength]int

func keyOf(w []int) key {
	var k key
	for i, letter := range w {
		k[i] = letter + 1
	}
	return k
}

// without returns what is left of a word without the first occurrence of a letter, if a word of the class begins with this letter.
func (t ties) without(w []int, letter int) ([]int, bool) {
	at := slices.Index(w, letter)
	if at < 0 || t.onAny(letter, w[:at]) {
		return nil, false
	}
	return slices.Concat(w[:at], w[at+1:]), true
}

// starts goes over the letters with which a word of the class begins, in ascending order, each with what is left without it.
func (t ties) starts(w []int) iter.Seq2[int, []int] {
	return func(yield func(int, []int) bool) {
		for letter := range t {
			if left, begins := t.without(w, letter); begins && !yield(letter, left) {
				return
			}
		}
	}
}

// class goes over the words of the class of a word, in ascending order.
func (t ties) class(w []int) iter.Seq[[]int] {
	return func(yield func([]int) bool) {
		if len(w) == 0 {
			yield(nil)
			return
		}
		for letter, left := range t.starts(w) {
			for behind := range t.class(left) {
				if !yield(append([]int{letter}, behind...)) {
					return
				}
			}
		}
	}
}

// first returns the first form of a word, in new memory.
func (t ties) first(w []int) []int {
	for form := range t.class(w) {
		return form
	}
	return nil
}

// size returns how many words the class of a word has. The same words are left along many ways: known has the sizes that were found.
func (t ties) size(w []int, known map[key]int) int {
	if len(w) == 0 {
		return 1
	}
	k := keyOf(w)
	if n, is := known[k]; is {
		return n
	}
	total := 0
	for _, left := range t.starts(w) {
		total += t.size(left, known)
	}
	known[k] = total
	return total
}

// layers returns the layers of a word.
func (t ties) layers(w []int) [][]int {
	var list [][]int
	for _, letter := range w {
		at := len(list)
		for at > 0 && !t.onAny(letter, list[at-1]) {
			at--
		}
		if at == len(list) {
			list = append(list, nil)
		}
		list[at] = append(list[at], letter)
	}
	for _, layer := range list {
		slices.Sort(layer)
	}
	return list
}

// path returns the places of exchanges that lead from one word to another one, if they are equal in class.
// It fetches the letters of the other one from the front on, so that no two letters pass each other twice.
func (t ties) path(from, to []int) ([]int, bool) {
	if len(from) != len(to) {
		return nil, false
	}
	w := slices.Clone(from)
	var places []int
	for i, letter := range to {
		ahead := slices.Index(w[i:], letter)
		if ahead < 0 {
			return nil, false
		}
		for at := i + ahead - 1; at >= i; at-- {
			if !t.exchange(w, at) {
				return nil, false
			}
			places = append(places, at)
		}
	}
	return places, true
}

// rest returns a word that makes, behind another one, the word w in class, if there is such a word.
func (t ties) rest(begin, w []int) ([]int, bool) {
	for _, letter := range begin {
		left, begins := t.without(w, letter)
		if !begins {
			return nil, false
		}
		w = left
	}
	return w, true
}

// split returns the longest word that begins two words, and the rests of both.
// A letter with which both begin is always part of it, so that each such letter may be taken first.
func (t ties) split(w, v []int) (common, ofW, ofV []int) {
	for letter, left := range t.starts(w) {
		if other, begins := t.without(v, letter); begins {
			common, ofW, ofV = t.split(left, other)
			return append([]int{letter}, common...), ofW, ofV
		}
	}
	return nil, w, v
}
