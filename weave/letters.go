package weave

import "lineal/api"

// ties says of any two letters whether they depend on each other.
type ties [api.MaxLetters][api.MaxLetters]bool

// tiesOf returns the ties of letters, if these are valid.
func tiesOf(l api.Letters) (ties, bool) {
	var t ties
	if l.N < 1 || l.N > api.MaxLetters {
		return t, false
	}
	for a := range t {
		t[a][a] = true
	}
	for _, pair := range l.Pairs {
		a, b := pair[0], pair[1]
		if a < 0 || a >= b || b >= l.N || t[a][b] {
			return ties{}, false
		}
		t[a][b], t[b][a] = true, true
	}
	return t, true
}

func isLetter(l api.Letters, a int) bool { return 0 <= a && a < l.N }

func isWord(l api.Letters, w []int) bool {
	if len(w) > api.MaxLength {
		return false
	}
	for _, letter := range w {
		if !isLetter(l, letter) {
			return false
		}
	}
	return true
}

// checked returns the ties of letters, and the error of the letters and of words of them.
func checked(l api.Letters, words ...[]int) (ties, api.Errno) {
	t, valid := tiesOf(l)
	if !valid {
		return ties{}, api.ErrLetters
	}
	for _, w := range words {
		if !isWord(l, w) {
			return ties{}, api.ErrWord
		}
	}
	return t, api.OK
}

// onAny reports whether a letter depends on any letter of a word.
func (t ties) onAny(letter int, w []int) bool {
	for _, other := range w {
		if t[letter][other] {
			return true
		}
	}
	return false
}

// exchange turns round two neighbouring letters of a word, and reports whether this is an exchange; otherwise the word stays as it is.
func (t ties) exchange(w []int, at int) bool {
	if at < 0 || at >= len(w)-1 || t[w[at]][w[at+1]] {
		return false
	}
	w[at], w[at+1] = w[at+1], w[at]
	return true
}
