package keep_test

import (
	"slices"
	"strconv"
	"strings"
	"testing"

	"lineal/api"
	"lineal/keep"
)

// world is a memory, and the book that was opened on it last.
type world struct {
	m *keep.Memory
	b *keep.Book
}

func number(t *testing.T, text string) int {
	t.Helper()
	n, err := strconv.Atoi(text)
	if err != nil {
		t.Fatalf("%q is no number", text)
	}
	return n
}

// numbers makes numbers of a text that has commas between them, or is -.
func numbers(t *testing.T, text string) []int {
	t.Helper()
	var list []int
	if text == "-" {
		return list
	}
	for _, part := range strings.Split(text, ",") {
		list = append(list, number(t, part))
	}
	return list
}

// deed does what a word says: w3=7 writes, f3 flushes, e is a fence, p4:0,1 a plan, c0,1 a crash (- for no cells), s a start; o opens the book, a7 adds, h2=9 changes the entry 2.
func (w *world) deed(t *testing.T, word string) api.Errno {
	t.Helper()
	rest := word[1:]
	first, second, _ := strings.Cut(rest, "=")
	switch word[0] {
	case 'w':
		return w.m.Write(number(t, first), number(t, second))
	case 'f':
		return w.m.Flush(number(t, rest))
	case 'e':
		return w.m.Fence()
	case 'p':
		steps, cells, _ := strings.Cut(rest, ":")
		return w.m.Fail(number(t, steps), numbers(t, cells))
	case 'c':
		return w.m.Crash(numbers(t, rest))
	case 's':
		return w.m.Start()
	case 'o':
		b, err := keep.Open(w.m)
		if err == api.OK {
			w.b = b
		}
		if (b == nil) != (err != api.OK) {
			t.Fatalf("Open: %v, %d", b, err)
		}
		return err
	case 'a':
		return w.b.Add(number(t, rest))
	case 'h':
		return w.b.Change(number(t, first), number(t, second))
	}
	t.Fatalf("%q is no deed", word)
	return api.OK
}

// look compares what is told with what a word says: r3=7 what is read, k3=7 what is kept, n12 the number of steps, l7,8 the entries, + that there is power, 0 that there is none.
func (w *world) look(t *testing.T, word string) (is bool, err api.Errno) {
	t.Helper()
	rest := word[1:]
	first, second, _ := strings.Cut(rest, "=")
	var n int
	switch word[0] {
	case 'r':
		n, err = w.m.Read(number(t, first))
		return n == number(t, second), err
	case 'k':
		n, err = w.m.Kept(number(t, first))
		return n == number(t, second), err
	case 'n':
		return w.m.Steps() == number(t, rest), api.OK
	case 'l':
		return slices.Equal(w.b.Entries(), numbers(t, rest)), api.OK
	default:
		return w.m.Power() == (word == "+"), api.OK
	}
}

// do does and looks at what a text says; behind a ! the error is named that a word has.
func (w *world) do(t *testing.T, text string) {
	t.Helper()
	for at, field := range strings.Fields(text) {
		word, want, has := strings.Cut(field, "!")
		is, err := true, api.OK
		if strings.Contains("rknl+0", word[:1]) {
			is, err = w.look(t, word)
		} else {
			err = w.deed(t, word)
		}
		if !is || !has && err != api.OK || has && int(err) != number(t, want) {
			t.Fatalf("%s of %q (the word %d): the error %d; as said: %v", field, text, at, err, is)
		}
	}
}

// behind is a memory that is new, behind what a text says, and its book.
func behind(t *testing.T, text string) *world {
	t.Helper()
	w := &world{m: keep.New()}
	w.do(t, text)
	return w
}

func TestCells(t *testing.T) { // P10.1, P10.2
	for name, text := range map[string]string{
		"a new memory":                       "+ n0 r0=0 r63=0 k0=0 k63=0",
		"all numbers and cells":              "w0=999 w63=0 w63=999 f63 e r0=999 k0=0 r63=999 k63=999 n5",
		"a write is fresh alone":             "w0=5 r0=5 k0=0 e r0=5 k0=0 n2",
		"what is not flushed is lost":        "w0=5 c- k0=0 s r0=0 k0=0",
		"what is not fenced is lost":         "w0=5 f0 k0=0 c- k0=0 s r0=0 e k0=0",
		"what is fenced stays":               "w0=5 f0 e k0=5 r0=5 c- k0=5 s r0=5",
		"a flush notes what there is":        "w0=1 f0 w0=2 e k0=1 r0=2 c- s r0=1",
		"the last flush counts":              "w0=1 f0 w0=2 f0 w0=3 e k0=2 r0=3",
		"the last flush counts, also if old": "w0=1 f0 w0=2 f0 w0=1 f0 w0=9 e k0=1",
		"a 0 is noted":                       "w0=5 f0 e w0=0 f0 w0=7 e k0=0 r0=7",
		"a flush of what was not written":    "f7 w7=3 e k7=0 r7=3",
		"many cells in one fence":            "w3=1 w1=2 f1 w2=3 f3 f2 w2=4 e k1=2 k2=3 k3=1 n8",
		"a fence is for what is noted":       "w0=1 w1=2 f1 e k0=0 k1=2 e k0=0 f0 e k0=1",
		"a fence of nothing":                 "e e e n3 +",
		"a fence does not read":              "w0=1 f0 e w0=2 k0=1 r0=2 e k0=1 r0=2",
	} {
		t.Run(name, func(t *testing.T) { behind(t, text) })
	}
}

func TestPower(t *testing.T) { // P10.1, P10.2
	for name, text := range map[string]string{
		"without power":                     "w0=1 f0 e c- 0 k0=1 r0=0!101 w0=1!101 f0!101 e!101 p1:-!101 c-!101 c0!101 0 n3 k0=1",
		"started twice":                     "w0=1 c- s + r0=0 w0=2 s r0=2 + n2",
		"a start of what has power":         "w0=1 f0 s r0=1 e k0=1",
		"cells that get out early":          "w0=1 w1=2 w2=3 c2,0 k0=1 k1=0 k2=3 s r0=1 r1=0 r2=3",
		"early, and again":                  "w5=1 c5,5,5,5,5,5,5,5,5,5 k5=1",
		"early, but not written":            "w0=4 f0 e c1,63,0 k0=4 k1=0 k63=0",
		"early, behind what was noted":      "w0=1 f0 w0=2 c0 k0=2 s r0=2",
		"noted, but lost":                   "w0=1 f0 w1=2 f1 c1 k0=0 k1=2 s r0=0 r1=2",
		"notes are forgotten":               "w0=1 f0 w0=2 c0 s e k0=2 r0=2",
		"notes are forgotten without cells": "w0=1 f0 c- s e k0=0 f0 e k0=0",
		"a plan for a write":                "w0=7 f0 e p1:- w0=8!101 0 n3 k0=7 s r0=7",
		"a plan for a write, early":         "w0=7 p1:0 w0=8!101 k0=7 s r0=7",
		"a plan for a flush":                "w0=7 p1:- f0!101 s e k0=0 n2",
		"a plan for a fence":                "w0=7 f0 p1:- e!101 k0=0 s e k0=0",
		"a plan for a fence, early":         "w0=7 f0 w0=8 p1:0 e!101 k0=8 s r0=8",
		"a plan for later":                  "p4:2 w0=1 w2=5 f0 e!101 k0=0 k2=5 n3 0",
		"a plan counts from then on":        "w0=1 f0 e p2:- w0=2 f0!101 n4",
		"the last step of a plan":           "p1000:- + w0=1 + n1",
		"a plan in the place of another":    "p1:0 p3:1 w0=1 w1=2 f0!101 k0=0 k1=2 n2",
		"a shorter plan instead":            "p9:0 w0=3 p1:- e!101 k0=0",
		"a longer plan instead":             "p1:0 p2:- w0=3 e!101 k0=0",
		"a plan is used once":               "p1:- e!101 s e e e n3 +",
		"a crash forgets the plan":          "p2:0 c- s w0=4 w0=5 e c- k0=0",
		"a start with power does not":       "p2:0 s w0=4 s e!101 k0=4",
		"what is no step does not count":    "p1:- r0=0 k0=0 n0 s + w64=0!2 w0=1000!2 f64!2 r64=0!2 c64!2 + e!101",
		"the plan that is none":             "p2:0 p0:-!2 p1001:-!2 p1:64!2 p1:0,0,0,0,0,0,0,0,0,0,0!2 w0=1 e!101 k0=1",
		"a plan with ten cells":             "w9=1 w0=2 p1:0,1,2,3,4,5,6,7,8,9 e!101 k9=1 k0=2",
		"a crash with too many cells":       "w0=2 c0,0,0,0,0,0,0,0,0,0,0!2 + k0=0 c0,0,0,0,0,0,0,0,0,0 k0=2",
		"steps go on over a loss":           "w0=1 e c- s e p2:- e e!101 s e n5",
	} {
		t.Run(name, func(t *testing.T) { behind(t, text) })
	}
}

func TestBook(t *testing.T) { // P10.3
	for name, text := range map[string]string{
		"the first example":               "o a7 p4:0 a8!101 o l7",
		"the second example":              "o a7 p5:0 a8!101 o l7,8",
		"a new memory has an empty book":  "o l- n0 +",
		"all numbers":                     "o a0 a999 a0 l0,999,0 c- o l0,999,0",
		"what adding writes":              "o a7 n6 k0=1 k1=7 a8 n12 k0=2 k1=7 k2=8 k3=0 k40=0 k41=0 k42=0",
		"what changing writes":            "o a7 a8 h2=9 n26 k0=2 k1=7 k2=9 k40=0 k41=2 k42=8 h1=0 n40 k1=0 k2=9 k40=0 k41=1 k42=7 l0,9",
		"changed to the same":             "o a7 h1=7 n20 k41=1 k42=7 l7",
		"a change that goes by":           "o a7 a8 p15:- h1=6 e!101 l6,8 o l6,8",
		"an add that goes by":             "o p7:- a8 e!101 l8 o l8",
		"adding is not done":              "o a7 p1:0,1,2 a8!101 l7 o l7 p6:- a8!101 l7 o l7 a9 l7,9",
		"changing is not done":            "o a7 p14:- h1=8!101 l7 k40=1 o l7 k40=0 k1=7 h1=9 l9",
		"changing is done early":          "o a7 p14:40 h1=8!101 l7 k40=0 o l8",
		"the old number is what was said": "o a7 w1=5 h1=8 k42=7 k1=8",
		"the number of entries as well":   "o a7 w0=9 w40=3 a8 l7,8 k0=2 k2=8",
		"without power":                   "o a7 c- a8!101 h1=3!101 l7 a1000!101 h9=9!101 n6",
		"with power again":                "o a7 c- s a8!101 h1=3!101 l7 h1=1000!101 o l7 a8 l7,8",
		"with power again, by a plan":     "o a7 p1:- e!101 s a8!101 l7 o a8",
		"errors of arguments":             "o a7 a1000!103 a-1!103 h1=1000!103 h1=-1!103 h0=1000!103 h2=1000!103 h0=1!5 h2=1!5 h-1=1!5 n6 l7",
		"errors and a plan":               "o a7 p1:- a1000!103 h2=1!5 + a8!101 0",
		"an entry that was added":         "o h1=5!5 a7 h1=5 a8 h2=6 h3=1!5 l5,6",
		"opened with what is fresh":       "w0=2 w1=5 w2=6 w3=7 o l5,6 n4",
		"opened with what is kept":        "w0=2 f0 e w1=5 c1 w1=3!101 o l5,0",
		"opened with 20":                  "w0=20 w20=3 o l0,0,0,0,0,0,0,0,0,0,0,0,0,0,0,0,0,0,0,3 n2 a1!4 h20=4 h21=4!5 a1000!103 n16",
		"opened with 21":                  "w0=21 o!102 n1 w0=20 o",
		"none, but it is started":         "w0=21 w1=5 w40=1 w41=1 c0,40,41 0 o!102 + r0=21 r1=0 r40=1 n4",
		"none, and the plan stays":        "w0=999 p2:- o!102 o!102 e e!101",
		"none, and the book stays":        "o a7 w0=21 o!102 h1=4 l4 a5 l4,5 k0=2",
		"another one is open":             "o a7 o l7 n6 a8 l7,8",
	} {
		t.Run(name, func(t *testing.T) { behind(t, text) })
	}
}

func TestNoteOfAChange(t *testing.T) { // P10.3, P10.8
	for name, text := range map[string]string{
		"taken back":            "w0=2 w1=5 w2=6 w40=1 w41=2 w42=9 o l5,9 n12 r40=0 k40=0 k2=9 r2=9 k1=0 k41=0 r41=2",
		"the first one":         "w0=1 w40=1 w41=1 w42=3 o l3 n10",
		"the last one":          "w0=20 w40=1 w41=20 w42=3 o n10 k20=3",
		"to 0":                  "w0=1 w1=5 w40=1 w41=1 o l0 n10",
		"an entry that is none": "w0=2 w1=5 w40=1 w41=3 w42=9 o l5,0 n8 r40=0 k40=0 r3=0 k3=0",
		"the entry 0":           "w0=1 w1=5 w40=1 w42=9 o l5 n7 r40=0 r0=1",
		"an entry of no book":   "w40=1 w41=1 w42=9 o l- n6 r40=0 r1=0",
		"the note 2":            "w0=1 w1=5 w40=2 w41=1 w42=9 o l5 n8 r40=0 k40=0 k1=0",
		"the note 999":          "w40=999 o l- n4 r40=0",
		"the note 0":            "w0=1 w1=5 w41=1 w42=9 o l5 n4 k40=0",
		"nothing is written":    "w0=1 w1=5 c- p1:-!101 s p1:- o + n2",
		"power fails at first":  "w0=1 w1=5 w40=1 w41=1 w42=9 p1:0,40,41,42 o!101 0 k1=0 o l9 n11",
		"power fails, early":    "w0=1 w1=5 w40=1 w41=1 w42=9 p2:0,1,40,41,42 o!101 k1=9 k40=1 o l9 n12",
		"power fails at last":   "w0=1 w1=5 w40=1 w41=1 w42=9 p6:0,40,41,42 o!101 k1=9 k40=0 o l9 n10",
		"power fails, a fence":  "w0=1 w40=1 w41=1 w42=9 c0,40,41,42 s p3:- o!101 k1=0 o l9",
		"as many as there are":  "w0=1 w40=1 w41=1 w42=9 c0,40,41,42 s p7:- o l9 e!101",
		"three, and no more":    "w40=5 c40 s p4:- o l- e!101 k40=0",
		"three are too many":    "w40=5 c40 s p3:- o!101 k40=5 o n6 k40=0",
		"what opening fails":    "o a7 w40=1 p1:- o!101 a8!101 s a8!101 l7 o a8 l7,8",
	} {
		t.Run(name, func(t *testing.T) { behind(t, text) })
	}
}

// TestOldBook checks a book behind another one that was opened, or was to be opened.
func TestOldBook(t *testing.T) { // P10.3
	w := behind(t, "o a7")
	old := world{w.m, w.b}
	w.do(t, "o")
	old.do(t, "a8!101 a1000!101 h1=3!101 h2=3!101 l7 n6")
	w.do(t, "a8 l7,8")
	old.do(t, "l7 a8!101 n12")
	if text, err := old.b.Ask("count"); text != "1" || err != api.OK {
		t.Errorf("Ask of an old book: %q, %d", text, err)
	}
	w.do(t, "w0=21 o!102 h2=5 l7,5 w0=2")
	// A book on a copy is no other book on the memory.
	c := world{m: w.m.Copy()}
	c.do(t, "o a9 l7,5,9")
	w.do(t, "a1 l7,5,1")
	c.do(t, "l7,5,9 a2 l7,5,9,2")
	// Nor is a loss of power there one of the memory.
	c.do(t, "c- a2!101")
	w.do(t, "a2 l7,5,1,2")
}

// TestFull checks how much a book holds, and that ErrLimit comes behind ErrEntry and before a loss of power.
func TestFull(t *testing.T) { // P10.3
	w := behind(t, "o")
	for n := range 20 {
		w.do(t, "a"+strconv.Itoa(n*50))
	}
	w.do(t, "n120 p2:-")
	before := w.m.Copy()
	w.do(t, "a1000!103 a-1!103 a1!4 h21=1!5")
	if !keep.SameMemory(w.m, before) || w.m.Steps() != 120 || len(w.b.Entries()) != 20 {
		t.Errorf("a full book: %v, %d steps", w.b.Entries(), w.m.Steps())
	}
	w.do(t, "h20=1!101 a1!101 o h20=1 c- o")
	for i, n := range w.b.Entries() {
		if i < 19 && n != i*50 || i == 19 && n != 1 {
			t.Errorf("the entry %d: %d", i+1, n)
		}
	}
}

func TestSameMemory(t *testing.T) { // P10.2
	for _, c := range []struct {
		one, other string
		want       bool
	}{
		{"", "", true},
		{"", "w0=0", true},
		{"", "e e", true},
		{"", "c- s", true},
		{"", "o", true},
		{"", "c-", false},
		{"", "w0=1", false},
		{"", "f0", false},
		{"", "f63 e", true},
		{"", "p1:-", false},
		{"w0=1", "w0=2", false},
		{"w0=1", "w1=1", false},
		{"w63=1", "w63=1", true},
		{"w0=1 w0=2", "w0=2", true},
		{"w0=1 f0 e", "w0=1 c0 s", true},
		{"w0=1 f0 e", "w0=1", false},
		{"w0=1 f0", "w0=1", false},
		{"w0=1 f0 w0=2", "w0=2", false},
		{"w0=1 f0 w0=2 f0", "w0=2 f0", true},
		{"w0=1 f0 w0=2 f0", "w0=2 f0 w0=1 f0 w0=2", false},
		{"f0 f1", "f1 f0", true},
		{"f0", "f1", false},
		{"w0=1 c0", "w0=1 f0 e c-", true},
		{"w0=1 f0 c0 s", "w0=1 f0 e", true},
		{"p1:0 c-", "c-", true},
		{"p1:0 c- s", "", true},
		{"p1:0", "p1:-", false},
		{"p1:0", "p1:1", false},
		{"p1:0", "p2:0", false},
		{"p1:0", "p1:0", true},
		{"p2:0 e", "p1:0", true},
		{"p2:0 e", "p2:0", false},
		{"p1:0,1", "p1:0", false},
		{"p5:3,7,63", "p5:3,7,63", true},
		{"p9:3 p5:0", "p5:0", true},
		{"o a7 c- o", "o a7", true},
		{"o a7 h1=8", "o a8", false},
	} {
		a, b := behind(t, c.one).m, behind(t, c.other).m
		if keep.SameMemory(a, b) != c.want || keep.SameMemory(b, a) != c.want {
			t.Errorf("SameMemory of %q and %q: not %v", c.one, c.other, c.want)
		}
		if !keep.SameMemory(a, a) || !keep.SameMemory(a, a.Copy()) {
			t.Errorf("%q is not the same as itself", c.one)
		}
	}
}

// TestCopy checks that a copy has all that the memory has, and that neither changes the other one.
func TestCopy(t *testing.T) { // P10.2, P10.9
	for _, text := range []string{"", "w0=1", "w0=1 f0 w0=2 f1", "w0=1 w1=2 p3:0,1 e", "w0=1 f0 c-", "o a7 a8 p3:41 h1=9!101", "o a7 p2:1"} {
		for _, next := range []string{"s", "w0=9", "f0", "e", "c0", "p1:-", "s w0=3 f0 e c-", "s o"} {
			m, other := behind(t, text).m, behind(t, text).m
			c := m.Copy()
			if c == m || !keep.SameMemory(c, other) || c.Steps() != m.Steps() || c.Power() != m.Power() {
				t.Fatalf("a copy behind %q", text)
			}
			for _, word := range strings.Fields(next) {
				(&world{m: c}).deed(t, word)
			}
			if !keep.SameMemory(m, other) || m.Steps() != other.Steps() {
				t.Errorf("behind %q: %q with a copy changes the memory", text, next)
			}
			then := c.Copy()
			for _, word := range strings.Fields(next) {
				(&world{m: m}).deed(t, word)
			}
			if !keep.SameMemory(c, then) || !keep.SameMemory(c, m) || c.Steps() != m.Steps() {
				t.Errorf("behind %q: %q with the memory changes a copy, or does something else", text, next)
			}
		}
	}
}

func TestAsk(t *testing.T) { // P10.4
	for _, c := range []struct {
		adds, size, says, count string
	}{
		{"", "1", "", "0"},
		{"a0", "1", "0", "1"},
		{"a1", "1", "0", "1"},
		{"a1 a0", "1", "0 0", "2"},
		{"a0 a1", "1", "0 1", "2"},
		{"a0 a1 a0 a1 a1", "1", "0 1 0 1 1", "5"},
		{"a1 a1 a0 a1", "1", "0 0 0 1", "4"},
		{"a2 a3", "1", "0 1", "2"},
		{"a0 a2", "2", "0 0", "2"},
		{"a1 a3", "2", "0 0", "2"},
		{"a6 a8", "2", "0 0", "2"},
		{"a999 a4", "2", "0 0", "2"},
		{"a0 a1 a2 a3", "6", "0 1 0 1", "4"},
		{"a0 a1 a2 a3 a4 a5 a6 a7 a8 a9", "210", "0 1 0 1 0 1 0 1 0 1", "10"},
		{"a0 a0 a0 a0 a0 a2 a2 a2 a2 a2", "252", "0 0 0 0 0 0 0 0 0 0", "10"},
	} {
		b := behind(t, "o "+c.adds).b
		for question, want := range map[string]string{"size": c.size, "says": c.says, "count": c.count} {
			if text, err := b.Ask(question); text != want || err != api.OK {
				t.Errorf("%s behind %q: %q, %d, not %q", question, c.adds, text, err, want)
			}
		}
	}
	w := behind(t, "o a1 a1 a1 a1 a1 a1 a1 a1 a1 a1 a0 c-")
	if text, err := w.b.Ask("size"); text != "" || err != api.ErrLimit {
		t.Errorf("size of 11 entries: %q, %d", text, err)
	}
	if text, err := w.b.Ask("says"); text != "0 0 0 0 0 0 0 0 0 0 0" || err != api.OK {
		t.Errorf("says of 11 entries: %q, %d", text, err)
	}
	w.do(t, "o a1 a2 a2 a2 a2 a2 a3 a2 a2")
	if text, err := w.b.Ask("says"); text != "0 0 0 0 0 0 0 0 0 0 0 1 0 0 0 0 0 1 0 0" || err != api.OK {
		t.Errorf("says of 20 entries: %q, %d", text, err)
	}
	for _, line := range []string{"", " ", "size ", " size", "Size", "sizes", "siz", "says says", "count\n", "list", "open", "add 1", "count 1", "\x00", "\xff"} {
		if text, err := w.b.Ask(line); text != "" || err != api.ErrCommand {
			t.Errorf("Ask(%q): %q, %d", line, text, err)
		}
	}
}

// script makes lines and answers of a text that has them in turn, with a colon behind the line, each pair in a line of its own.
func script(text string) (lines, answers []string) {
	for _, row := range strings.Split(strings.TrimSpace(text), "\n") {
		line, answer, _ := strings.Cut(strings.TrimSpace(row), ": ")
		lines, answers = append(lines, strings.TrimSuffix(line, ":")), append(answers, answer)
	}
	return lines, answers
}

func TestPlay(t *testing.T) { // P10.5
	for name, text := range map[string]string{
		"the first example": `
			add 7: ok
			fail 4 0: ok
			add 8: error 101
			open: ok
			list: 7`,
		"the second example": `
			add 7: ok
			fail 5 0: ok
			add 8: error 101
			open: ok
			list: 7,8`,
		"an empty book": `
			list: -
			size: 1
			says:
			count: 0
			change 1 2: error 5
			change 0 0: error 5
			open: ok
			list: -`,
		"numbers": `
			add 0: ok
			add 999: ok
			add 1000: error 103
			add 9999: error 103
			add 10000: error 100
			change 2 10: ok
			change 9999 0: error 5
			change 9999 9999: error 103
			list: 0,10
			count: 2
			says: 0 0
			size: 2`,
		"a loss of power": `
			add 4: ok
			crash 0,1,2: ok
			list: 4
			count: 1
			says: 0
			size: 1
			add 5: error 101
			add 1000: error 101
			change 9 9: error 101
			fail 1 -: error 101
			fail 0 -: error 2
			crash -: error 101
			crash 64: error 2
			what: error 100
			open: ok
			add 5: ok
			list: 4,5`,
		"plans": `
			fail 1000 63: ok
			fail 1001 63: error 2
			fail 0 63: error 2
			fail 9999 -: error 2
			fail 1 64: error 2
			fail 1 9999: error 2
			fail 1 0,1,2,3,4,5,6,7,8,9: ok
			fail 2 0,1,2,3,4,5,6,7,8,9,10: error 2
			open: ok
			list: -
			add 1: error 101
			list: -
			open: ok
			fail 7 -: ok
			add 1: ok
			add 2: error 101
			open: ok
			list: 1`,
		"crashes": `
			crash 0,0,0,0,0,0,0,0,0,0,0: error 2
			crash 64: error 2
			add 1: ok
			crash 63,0: ok
			open: ok
			crash -: ok
			open: ok
			list: 1`,
		"a change that is not done, or is": `
			add 3: ok
			fail 11 1: ok
			change 1 4: error 101
			list: 3
			open: ok
			list: 3
			fail 13 40: ok
			change 1 4: error 101
			open: ok
			list: 4
			fail 14 -: ok
			change 1 5: error 101
			open: ok
			list: 4
			fail 15 -: ok
			change 1 5: ok
			open: ok
			list: 5`,
	} {
		t.Run(name, func(t *testing.T) {
			lines, want := script(text)
			got, err := keep.Play(lines)
			if !slices.Equal(got, want) || err != api.OK {
				t.Errorf("%q, %d, not %q", got, err, want)
			}
		})
	}
}

// TestNoCommand checks lines that are none, in front of a line that is one.
func TestNoCommand(t *testing.T) { // P10.5
	for _, line := range []string{
		"", " ", "-", "7", "ok", "what", "Add 7", "ADD 7", "add", "add ", "add  7", " add 7", "add 7 ", "add 7\n", "add 7 8", "add\t7", "add7", "added 7",
		"add 07", "add 00", "add +7", "add -7", "add -0", "add 1e2", "add 0x1", "add 1_0", "add 7.", "add 10000", "add 00001", "add a", "add :", "add 1:", "add /", "add 1/", "add -", "add 7,8", "add ٣", "add \xff", "add 7\x00", "add 18446744073709551617",
		"change", "change 1", "change 1 ", "change 1 2 3", "change 1 02", "change 01 2", "change  1 2", "change 1  2", "change -1 2", "change 1 -2", "change 1,2", "change - 2", "change 10000 1", "change 1 10000",
		"fail", "fail 1", "fail 1 ", "fail -", "fail - 1", "fail 1 1,", "fail 1 ,1", "fail 1 ,", "fail 1 1,,2", "fail 1 --", "fail 1 -,1", "fail 1 1,-", "fail 1 1, 2", "fail 1 1 2", "fail 1 01", "fail 01 1", "fail -1 1", "fail 1 -1", "fail 1 10000", "fail 10000 1", "fail 1 1;2", "fail 1 - ",
		"crash", "crash ", "crash 1 2", "crash 1,", "crash ,", "crash --", "crash 01", "crash 1,01", "crash 10000", "crash - -", "crash -1", "crash x",
		"open ", " open", "open 1", "open -", "Open", "opened", "list ", "list 1", " list", "lists", "count ", "count 1", "size -", "says ?", "Size", "play", "start", "copy", "power",
		strings.Repeat("add ", 1000), strings.Repeat(" ", 1000), "crash 1" + strings.Repeat(",1", 1000) + ",",
	} {
		got, err := keep.Play([]string{"add 5", line, "list"})
		if !slices.Equal(got, []string{"ok", "error 100", "5"}) || err != api.OK {
			t.Errorf("%q: %q, %d", line, got, err)
		}
	}
	long := "crash 1" + strings.Repeat(",1", 1000)
	if got, err := keep.Play([]string{long}); !slices.Equal(got, []string{"error 2"}) || err != api.OK {
		t.Errorf("a crash with many cells: %q, %d", got, err)
	}
}

func TestLongScripts(t *testing.T) { // P10.5
	for _, n := range []int{0, 1, 99, 100, 101, 1000} {
		got, err := keep.Play(make([]string, n))
		if n > 100 && (len(got) != 0 || err != api.ErrLimit) {
			t.Errorf("Play of %d lines: %d answers, %d", n, len(got), err)
		}
		if n <= 100 && (err != api.OK || !slices.Equal(got, slices.Repeat([]string{"error 100"}, n))) {
			t.Errorf("Play of %d lines: %q, %d", n, got, err)
		}
	}
	lines := append(slices.Repeat([]string{"add 2"}, 22), "change 20 3", "change 21 3", "size", "count", "says", "list")
	got, err := keep.Play(lines)
	if err != api.OK || len(got) != len(lines) {
		t.Fatalf("a full book: %q, %d", got, err)
	}
	want := []string{"ok", "error 4", "error 4", "ok", "error 5", "error 4", "20", strings.Repeat("0 ", 19) + "1", strings.Repeat("2,", 19) + "3"}
	if !slices.Equal(got[19:], want) {
		t.Errorf("a full book: %q", got[19:])
	}
}
