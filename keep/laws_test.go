package keep_test

import (
	"fmt"
	"maps"
	"math/rand/v2"
	"regexp"
	"slices"
	"strconv"
	"strings"
	"testing"

	"lineal/api"
	"lineal/keep"
)

// slow is a memory that is written as the document says it; its deeds are the words of a world.
type slow struct {
	fresh, kept map[int]int // numbers that are not 0
	notes       [][2]int    // cells and numbers, in the order of the flushes
	power       bool
	left        int // steps of the plan
	early       []int
	steps       int
	log         []string // when books were opened, and power failed
}

// slowBook is a book on a slow memory.
type slowBook struct {
	entries []int
	since   int // how long the log was when it was opened
}

func newSlow() *slow {
	return &slow{fresh: map[int]int{}, kept: map[int]int{}, power: true}
}

func set(numbers map[int]int, cell, n int) {
	numbers[cell] = n
	if n == 0 {
		delete(numbers, cell)
	}
}

// state tells all by which two memories are the same.
func (s *slow) state() string {
	last := map[int]int{}
	for _, note := range s.notes {
		last[note[0]] = note[1]
	}
	return fmt.Sprint(s.fresh, s.kept, last, s.power, s.left, s.early)
}

func cell(n int) bool { return 0 <= n && n < 64 }

func areEarly(cells []int) bool {
	return len(cells) <= 10 && !slices.ContainsFunc(cells, func(n int) bool { return !cell(n) })
}

func (s *slow) down(cells []int) {
	for _, n := range cells {
		set(s.kept, n, s.fresh[n])
	}
	s.notes, s.power, s.left, s.early = nil, false, 0, nil
	s.log = append(s.log, "down")
}

// step does a write, a flush or a fence with valid numbers.
func (s *slow) step(kind byte, cell, n int) int {
	if !s.power {
		return 101
	}
	if s.left == 1 {
		s.down(s.early)
		return 101
	}
	if s.left > 0 {
		if s.left--; s.left == 0 {
			panic("a plan that went by")
		}
	}
	s.steps++
	switch kind {
	case 'w':
		set(s.fresh, cell, n)
	case 'f':
		s.notes = append(s.notes, [2]int{cell, s.fresh[cell]})
	case 'e':
		for _, note := range s.notes {
			set(s.kept, note[0], note[1])
		}
		s.notes = nil
	}
	return 0
}

// words does words, one after the other, until one has an error.
func (s *slow) words(t *testing.T, text string) int {
	for _, word := range strings.Fields(text) {
		if err := s.deed(t, word); err != 0 {
			return err
		}
	}
	return 0
}

// deed does a word that is not one of a book.
func (s *slow) deed(t *testing.T, word string) int {
	rest := word[1:]
	first, second, _ := strings.Cut(rest, "=")
	switch word[0] {
	case 'w':
		at, n := number(t, first), number(t, second)
		if !cell(at) || n < 0 || n > 999 {
			return 2
		}
		return s.step('w', at, n)
	case 'f':
		if !cell(number(t, rest)) {
			return 2
		}
		return s.step('f', number(t, rest), 0)
	case 'e':
		return s.step('e', 0, 0)
	case 's':
		if !s.power {
			s.fresh, s.power = maps.Clone(s.kept), true
		}
		return 0
	}
	steps, list, is := strings.Cut(rest, ":")
	if !is {
		list = rest
	}
	cells := numbers(t, list)
	if !areEarly(cells) || is && (number(t, steps) < 1 || number(t, steps) > 1000) {
		return 2
	}
	if !s.power {
		return 101
	}
	if is {
		s.left, s.early = number(t, steps), cells
		return 0
	}
	s.down(cells)
	return 0
}

// addWords are the steps of adding to a book that has so many entries.
func addWords(count, n int) string {
	return fmt.Sprintf("w%d=%d f%d e w0=%d f0 e", count+1, n, count+1, count+1)
}

// changeWords are the steps of changing.
func changeWords(number, old, n int) string {
	return fmt.Sprintf("w41=%d w42=%d f41 f42 e w40=1 f40 e w%d=%d f%d e w40=0 f40 e", number, old, number, n, number)
}

// openWords are the steps of opening a memory that has power.
func (s *slow) openWords() string {
	var text string
	if s.fresh[40] == 1 && s.fresh[41] >= 1 && s.fresh[41] <= s.fresh[0] {
		text = fmt.Sprintf("w%d=%d f%d e ", s.fresh[41], s.fresh[42], s.fresh[41])
	}
	if s.fresh[40] != 0 {
		text += "w40=0 f40 e"
	}
	return text
}

func (s *slow) open(t *testing.T) (*slowBook, int) {
	s.deed(t, "s")
	if s.fresh[0] > 20 {
		return nil, 102
	}
	if err := s.words(t, s.openWords()); err != 0 {
		return nil, err
	}
	s.log = append(s.log, "open")
	b := &slowBook{since: len(s.log)}
	for n := range s.fresh[0] {
		b.entries = append(b.entries, s.fresh[n+1])
	}
	return b, 0
}

// book does a word of a book that adds or changes.
func (s *slow) book(t *testing.T, b *slowBook, word string) int {
	first, second, change := strings.Cut(word[1:], "=")
	at, n := 0, number(t, first)
	if change {
		at, n = n, number(t, second)
	}
	switch {
	case !s.power || b.since < len(s.log):
		return 101
	case n < 0 || n > 999:
		return 103
	case !change && len(b.entries) == 20:
		return 4
	case change && (at < 1 || at > len(b.entries)):
		return 5
	case change:
		err := s.words(t, changeWords(at, b.entries[at-1], n))
		if err == 0 {
			b.entries[at-1] = n
		}
		return err
	}
	err := s.words(t, addWords(len(b.entries), n))
	if err == 0 {
		b.entries = append(b.entries, n)
	}
	return err
}

// dice throws what tests need.
type dice struct{ *rand.Rand }

func newDice(seed uint64) dice { return dice{rand.New(rand.NewPCG(10, seed))} }

func (d dice) of(list ...int) int { return list[d.IntN(len(list))] }

func (d dice) cell() int { return d.of(0, 0, 1, 1, 2, 3, 20, 21, 40, 40, 41, 42, 63, d.IntN(64)) }

func (d dice) number() int { return d.of(0, 1, 1, 2, 2, 3, 20, 21, 999, d.IntN(1000)) }

// rarely gives, once in 60 times, another number.
func (d dice) rarely(n, other int) int {
	if d.IntN(60) == 0 {
		return other
	}
	return n
}

// cells is a text of cells, nearly always of at most ten.
func (d dice) cells() string {
	var list []int
	for range d.rarely(d.of(0, 0, 1, 1, 2, 3, 5, 8, 10), 11) {
		list = append(list, d.rarely(d.cell(), d.of(-1, 64)))
	}
	return text(list)
}

// text is numbers with commas between them, or -.
func text(list []int) string {
	if len(list) == 0 {
		return "-"
	}
	var words []string
	for _, n := range list {
		words = append(words, strconv.Itoa(n))
	}
	return strings.Join(words, ",")
}

// word is a deed with a memory, or a book on it.
func (d dice) word() string {
	switch kind := d.IntN(40); {
	case kind < 9:
		return fmt.Sprintf("w%d=%d", d.rarely(d.cell(), d.of(-1, 64)), d.rarely(d.number(), d.of(-1, 1000)))
	case kind < 15:
		return fmt.Sprintf("f%d", d.rarely(d.cell(), d.of(-1, 64)))
	case kind < 18:
		return "e"
	case kind < 21:
		return fmt.Sprintf("p%d:%s", d.rarely(1+d.IntN(16), d.of(0, 1000, 1001)), d.cells())
	case kind < 23:
		return "c" + d.cells()
	case kind < 25:
		return "s"
	case kind < 29:
		return "o"
	case kind < 35:
		return fmt.Sprintf("a%d", d.rarely(d.number(), d.of(-1, 1000)))
	default:
		return fmt.Sprintf("h%d=%d", d.of(0, 1, 1, 1, 2, 2, 3, 20, 21), d.rarely(d.number(), d.of(-1, 1000)))
	}
}

// checkCells compares all that a memory tells with a slow one.
func checkCells(t *testing.T, m *keep.Memory, s *slow, behind string) {
	t.Helper()
	if m.Power() != s.power || m.Steps() != s.steps {
		t.Fatalf("%s: Power %v, Steps %d", behind, m.Power(), m.Steps())
	}
	for cell := range 64 {
		n, err := m.Kept(cell)
		if n != s.kept[cell] || err != api.OK {
			t.Fatalf("%s: Kept(%d): %d, %d, not %d", behind, cell, n, err, s.kept[cell])
		}
		n, err = m.Read(cell)
		if s.power && (n != s.fresh[cell] || err != api.OK) || !s.power && (n != 0 || err != api.ErrDown) {
			t.Fatalf("%s: Read(%d): %d, %d, not %d", behind, cell, n, err, s.fresh[cell])
		}
	}
}

// pair is a world, with all books that were opened, and what is to be the same.
type pair struct {
	world
	books []*keep.Book
	s     *slow
	slows []*slowBook
	done  []string
}

// do does a word with both, a deed of a book with one of the last books, and checks that all is the same.
func (p *pair) do(t *testing.T, d dice, word string) {
	t.Helper()
	p.done = append(p.done, word)
	behind := strings.Join(p.done, " ")
	before := p.m.Copy()
	var got api.Errno
	var want int
	switch {
	case word == "o":
		var b *slowBook
		got = p.deed(t, word)
		b, want = p.s.open(t)
		if want == 0 {
			p.books, p.slows = append(p.books, p.b), append(p.slows, b)
		}
	case word[0] == 'a' || word[0] == 'h':
		at := len(p.books) - 1 - d.rarely(0, d.IntN(len(p.books)))
		got = (&world{p.m, p.books[at]}).deed(t, word)
		want = p.s.book(t, p.slows[at], word)
	default:
		got, want = p.deed(t, word), p.s.deed(t, word)
	}
	if int(got) != want {
		t.Fatalf("%s: the error %d, not %d", behind, got, want)
	}
	if got != api.OK && got != api.ErrDown && word != "o" && !keep.SameMemory(before, p.m) {
		t.Fatalf("%s: an error with an effect", behind)
	}
	checkCells(t, p.m, p.s, behind)
	for i, b := range p.books {
		if !slices.Equal(b.Entries(), p.slows[i].entries) {
			t.Fatalf("%s: the entries of the book %d: %v, not %v", behind, i, b.Entries(), p.slows[i].entries)
		}
	}
}

// TestAsSaid does deeds with memories and books, and with slow ones, and compares them.
func TestAsSaid(t *testing.T) { // P10.1, P10.2, P10.3, P10.8, P10.9
	d := newDice(1)
	type told struct {
		m    *keep.Memory
		text string
	}
	for range 150 {
		p := pair{world: world{m: keep.New()}, s: newSlow()}
		p.do(t, d, "o")
		var seen []told
		for range 120 {
			p.do(t, d, d.word())
			if !p.s.power && d.IntN(2) == 0 {
				p.do(t, d, []string{"s", "o"}[d.IntN(2)])
			}
			seen = append(seen, told{p.m.Copy(), p.s.state()})
		}
		for i, a := range seen {
			for _, b := range seen[:i+1] {
				if keep.SameMemory(a.m, b.m) != (a.text == b.text) || keep.SameMemory(b.m, a.m) != (a.text == b.text) {
					t.Fatalf("SameMemory of %s and %s: %v", a.text, b.text, keep.SameMemory(a.m, b.m))
				}
			}
		}
	}
}

// TestSameSteps checks that few steps with few cells lead to memories that are the same exactly if it is so of slow ones.
func TestSameSteps(t *testing.T) { // P10.2
	words := []string{"w0=0", "w0=1", "w1=1", "f0", "f1", "e", "c-", "c0", "s", "p1:-", "p1:0", "p2:-"}
	made := map[string][]*keep.Memory{}
	for code := range len(words) * len(words) * len(words) {
		w, s := world{m: keep.New()}, newSlow()
		for rest := code; rest > 0; rest /= len(words) {
			w.deed(t, words[rest%len(words)])
			s.deed(t, words[rest%len(words)])
		}
		made[s.state()] = append(made[s.state()], w.m)
	}
	var firsts []*keep.Memory
	for state, list := range made {
		for _, m := range list {
			if !keep.SameMemory(m, list[0]) {
				t.Fatalf("not the same with %s", state)
			}
		}
		if slices.ContainsFunc(firsts, func(m *keep.Memory) bool { return keep.SameMemory(m, list[0]) }) {
			t.Fatalf("the same as another one with %s", state)
		}
		firsts = append(firsts, list[0])
	}
	if len(firsts) < 50 {
		t.Errorf("only %d states", len(firsts))
	}
}

// opened opens the book on a memory.
func opened(t *testing.T, m *keep.Memory) *keep.Book {
	t.Helper()
	b, err := keep.Open(m)
	if err != api.OK || !m.Power() {
		t.Fatalf("Open: %d", err)
	}
	return b
}

// subsets calls for all lists of some cells.
func subsets(cells []int, call func(early []int)) {
	for code := range 1 << len(cells) {
		var early []int
		for i, cell := range cells {
			if code>>i&1 == 1 {
				early = append(early, cell)
			}
		}
		call(early)
	}
}

// failed does a deed of a book on a copy of a memory; power fails in the place of a step of it.
func failed(t *testing.T, m *keep.Memory, deed string, at int, early []int) *keep.Memory {
	t.Helper()
	w := world{m: m.Copy()}
	w.do(t, "o")
	said := w.b.Entries()
	if err := w.m.Fail(at, early); err != api.OK {
		t.Fatalf("Fail(%d, %v): %d", at, early, err)
	}
	if err := w.deed(t, deed); err != api.ErrDown || w.m.Power() || !slices.Equal(w.b.Entries(), said) {
		t.Fatalf("%s with a plan of %d, %v: %d, %v", deed, at, early, err, w.b.Entries())
	}
	return w.m
}

// steps returns how many steps a deed takes.
func steps(t *testing.T, m *keep.Memory, deed string) (number int, then []int) {
	t.Helper()
	w := world{m: m.Copy()}
	w.do(t, "o")
	before := w.m.Steps()
	w.do(t, deed)
	return w.m.Steps() - before, w.b.Entries()
}

// checkSteps checks that a memory on which power has failed is as one on which steps were done by hand before that.
func checkSteps(t *testing.T, m, then *keep.Memory, words []string, early []int) {
	t.Helper()
	w := world{m: m.Copy()}
	w.do(t, "o "+strings.Join(words, " ")+" c"+text(early))
	if !keep.SameMemory(w.m, then) || w.m.Steps() != then.Steps() {
		t.Fatalf("behind %v and a loss with %v early: not the same", words, early)
	}
}

// TestAllOrNothing lets power fail everywhere on the way of a deed, and then of Open, with all cells that matter.
func TestAllOrNothing(t *testing.T) { // P10.6, P10.8
	for _, c := range []struct{ book, deed, words string }{
		{"o", "a7", addWords(0, 7)},
		{"o a7", "a0", addWords(1, 0)},
		{"o a7 h1=5", "a8", addWords(1, 8)},
		{"o a7", "h1=9", changeWords(1, 7, 9)},
		{"o a7 h1=5", "h1=9", changeWords(1, 5, 9)},
		{"o a7 a8 h1=5", "h2=9", changeWords(2, 8, 9)},
	} {
		m := behind(t, c.book).m
		old := opened(t, m.Copy()).Entries()
		words := strings.Fields(c.words)
		count, new := steps(t, m, c.deed)
		if count != len(words) {
			t.Fatalf("%s takes %d steps", c.deed, count)
		}
		cells := []int{0, 40, 41, 42}
		for n := range new {
			cells = append(cells, n+1)
		}
		for at := 1; at <= count; at++ {
			seen := map[string]bool{}
			subsets(cells, func(early []int) {
				then := failed(t, m, c.deed, at, early)
				checkSteps(t, m, then, words[:at-1], early)
				entries := checkReopened(t, then, cells, old, new)
				seen[text(entries)] = true
			})
			if at == 1 && (len(seen) != 1 || !seen[text(old)]) {
				t.Errorf("%s, but no step of it: %v", c.deed, seen)
			}
		}
	}
}

// checkReopened opens a book behind a loss of power, and lets power fail everywhere on the way of that; it returns what the book has.
func checkReopened(t *testing.T, m *keep.Memory, cells, old, new []int) []int {
	t.Helper()
	then := m.Copy()
	entries := opened(t, then).Entries()
	if !slices.Equal(entries, old) && !slices.Equal(entries, new) {
		t.Fatalf("neither %v nor %v, but %v", old, new, entries)
	}
	count := then.Steps() - m.Steps()
	if count != 0 && count != 6 {
		t.Fatalf("Open takes %d steps", count)
	}
	for at := 1; at <= count; at++ {
		subsets(cells, func(early []int) {
			again := m.Copy()
			if again.Start() != api.OK || again.Fail(at, early) != api.OK {
				t.Fatalf("Start or Fail has an error")
			}
			if b, err := keep.Open(again); b != nil || err != api.ErrDown || again.Power() {
				t.Fatalf("Open with a plan: %v, %d", b, err)
			}
			if l := opened(t, again).Entries(); !slices.Equal(l, entries) {
				t.Fatalf("a book that was opened twice: %v, not %v", l, entries)
			}
		})
	}
	return entries
}

// changed is what entries are behind a deed that adds or changes.
func changed(t *testing.T, entries []int, word string) []int {
	t.Helper()
	first, second, change := strings.Cut(word[1:], "=")
	if change {
		entries[number(t, first)-1] = number(t, second)
		return entries
	}
	return append(entries, number(t, first))
}

// TestNothingIsLost does deeds of books alone, with any losses of power, and checks what books have.
func TestNothingIsLost(t *testing.T) { // P10.6, P10.7
	d := newDice(2)
	kinds := map[string]int{}
	for range 300 {
		w := behind(t, "o")
		can := [][]int{nil} // what a book that is opened may have
		good := true        // whether power has not failed since the book was opened
		for range 100 {
			said := w.b.Entries()
			word := d.word()
			if strings.Contains("wfe", word[:1]) {
				continue
			}
			if !w.m.Power() && d.IntN(2) == 0 {
				w.deed(t, "s")
				w.deed(t, fmt.Sprintf("p%d:%s", 1+d.IntN(6), d.cells()))
				word = "o"
			}
			err := w.deed(t, word)
			switch {
			case word == "o" && err == api.OK:
				l := w.b.Entries()
				if !slices.ContainsFunc(can, func(one []int) bool { return slices.Equal(l, one) }) {
					t.Fatalf("%v, not one of %v", l, can)
				}
				can, good = [][]int{l}, true
			case (word[0] == 'a' || word[0] == 'h') && err == api.OK:
				can = [][]int{w.b.Entries()}
			case (word[0] == 'a' || word[0] == 'h') && err == api.ErrDown && good:
				can = append(can, changed(t, said, word))
			}
			good = good && w.m.Power()
			kinds[fmt.Sprintf("%c%d", word[0], err)]++
		}
	}
	for _, kind := range []string{"o0", "o101", "a0", "h0", "a101", "h101", "c0", "p0"} {
		if kinds[kind] < 30 {
			t.Errorf("only %d of %s", kinds[kind], kind)
		}
	}
}

// TestAnsweredStays lets power fail behind each deed, with all cells that matter.
func TestAnsweredStays(t *testing.T) { // P10.7
	w := behind(t, "o")
	for _, word := range []string{"a1", "a2", "h1=3", "a4", "h3=5", "h3=6", "o", "h2=0", "a0"} {
		w.do(t, word)
		subsets([]int{0, 1, 2, 3, 4, 40, 41, 42, 63}, func(early []int) {
			m := w.m.Copy()
			if err := m.Crash(early); err != api.OK {
				t.Fatalf("Crash: %d", err)
			}
			before := m.Steps()
			if l := opened(t, m).Entries(); !slices.Equal(l, w.b.Entries()) || m.Steps() != before {
				t.Fatalf("behind %s, with %v early: %v, not %v", word, early, l, w.b.Entries())
			}
		})
	}
}

// asked is the answer to a question that has no error, or the opposite of the error's number.
func asked(entries []int, line string) string {
	low, words, set := 0, []string{}, false
	for _, n := range entries {
		if n%4 < 2 {
			low++
		}
		if n%2 == 1 && set {
			words = append(words, "1")
		} else {
			words = append(words, "0")
		}
		set = set || n%2 == 0
	}
	switch {
	case line == "count":
		return strconv.Itoa(len(entries))
	case line == "says":
		return strings.Join(words, " ")
	case line != "size":
		return "error 100"
	case len(entries) > 10:
		return "error 4"
	}
	// The letters 0 and 1 stand anywhere between 2 and 3: so many places are chosen for them.
	size := 1
	for i := range low {
		size = size * (len(entries) - i) / (i + 1)
	}
	return strconv.Itoa(size)
}

// slowPlay does lines as the document says it.
func slowPlay(t *testing.T, lines []string) []string {
	const num = `(0|[1-9][0-9]{0,3})`
	const cells = `(-|(?:0|[1-9][0-9]{0,3})(?:,(?:0|[1-9][0-9]{0,3}))*)`
	forms := map[string]*regexp.Regexp{}
	for form, word := range map[string]string{
		"add " + num: "a$1", "change " + num + " " + num: "h$1=$2", "fail " + num + " " + cells: "p$1:$2",
		"crash " + cells: "c$1", "list": "l", "open": "o",
	} {
		forms[word] = regexp.MustCompile("^" + form + `\z`)
	}
	s := newSlow()
	b, _ := s.open(t)
	var answers []string
	for _, line := range lines {
		answer := asked(b.entries, line)
		for word, form := range forms {
			if !form.MatchString(line) {
				continue
			}
			deed := form.ReplaceAllString(line, strings.ReplaceAll(strings.ReplaceAll(word, "$1", "${1}"), "$2", "${2}"))
			if word == "l" {
				answer = text(b.entries)
				continue
			}
			err := 0
			switch word[0] {
			case 'o':
				next, fails := s.open(t)
				if err = fails; err == 0 {
					b = next
				}
			case 'a', 'h':
				err = s.book(t, b, deed)
			default:
				err = s.deed(t, deed)
			}
			answer = "ok"
			if err != 0 {
				answer = fmt.Sprint("error ", err)
			}
		}
		answers = append(answers, answer)
	}
	return answers
}

// line is a line of a script, nearly always one that is a command.
func (d dice) line() string {
	few := d.of(0, 1, 2, 3, 5, 9, 12, 64, 999, d.IntN(1000), d.rarely(7, 1000))
	kinds := []string{
		fmt.Sprint("add ", few), fmt.Sprint("add ", few), fmt.Sprint("add ", few),
		fmt.Sprint("change ", d.of(0, 1, 1, 2, 3, 4), " ", few),
		fmt.Sprint("fail ", d.rarely(1+d.IntN(15), d.of(0, 1000, 1001)), " ", d.cells()),
		"crash " + d.cells(), "open", "open", "list", "size", "says", "count",
	}
	line := kinds[d.IntN(len(kinds))]
	if d.IntN(12) > 0 {
		return line
	}
	at := d.IntN(len(line) + 1)
	some := []string{"", "0", "1", "12345", " ", ",", "-", "a", "\n", "٣", "\xff"}[d.IntN(11)]
	return line[:at] + some + line[min(len(line), at+d.IntN(2)):]
}

// TestPlayAsSaid does scripts, and compares the answers.
func TestPlayAsSaid(t *testing.T) { // P10.4, P10.5
	d := newDice(3)
	for range 400 {
		var lines []string
		for range d.IntN(101) {
			lines = append(lines, d.line())
		}
		got, err := keep.Play(lines)
		if want := slowPlay(t, lines); err != api.OK || !slices.Equal(got, want) {
			t.Fatalf("Play of %q: %q, %d, not %q", lines, got, err, want)
		}
	}
}

// TestAskAsSaid asks books with any entries.
func TestAskAsSaid(t *testing.T) { // P10.4, P10.9
	d := newDice(4)
	for range 400 {
		w := behind(t, "o")
		for range d.IntN(21) {
			w.do(t, fmt.Sprint("a", d.of(d.IntN(4), d.IntN(1000))))
		}
		before, count := w.m.Copy(), w.m.Steps()
		for _, line := range []string{"size", "says", "count", "what"} {
			answer, err := w.b.Ask(line)
			if err != api.OK {
				if answer != "" {
					t.Fatalf("Ask(%s): %q with the error %d", line, answer, err)
				}
				answer = fmt.Sprint("error ", int(err))
			}
			if want := asked(w.b.Entries(), line); answer != want {
				t.Fatalf("Ask(%s) of %v: %q, not %q", line, w.b.Entries(), answer, want)
			}
		}
		if !keep.SameMemory(w.m, before) || w.m.Steps() != count {
			t.Fatalf("Ask changes the memory")
		}
	}
}
