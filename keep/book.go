package keep

import (
	"slices"
	"strconv"
	"strings"

	"lineal/api"
	"lineal/spec"
	"lineal/weave"
)

// The cells of a book that are not those of its entries: these have the cells from 1 on.
const (
	cellCount  = 0  // how many entries there are
	cellNote   = 40 // 1 if there is a note of a change
	cellNumber = 41 // which entry is changed
	cellOld    = 42 // what it was
)

// Book has the entries that were opened, added and changed. It is good until power fails, or another book is opened on its memory.
type Book struct {
	memory  *Memory
	era     int // that of the memory when the book was opened
	entries []int
}

// Open opens the book on a memory, which it starts if there is no power; it takes back a change that was not done to its end.
func Open(m *Memory) (*Book, api.Errno) {
	if err := m.Start(); err != api.OK {
		return nil, err
	}
	count := m.fresh[cellCount]
	if count > api.MaxBook {
		return nil, api.ErrKeep
	}
	if err := m.takeBack(count); err != api.OK {
		return nil, err
	}
	m.era++
	return &Book{memory: m, era: m.era, entries: slices.Clone(m.fresh[1 : count+1])}, api.OK
}

// takeBack gives an entry, of so many, what the note of a change says that it was, and removes the note.
func (m *Memory) takeBack(count int) api.Errno {
	is, number := m.fresh[cellNote], m.fresh[cellNumber]
	if is == 0 {
		return api.OK
	}
	if is == 1 && isEntry(number, count) {
		if err := m.keep([]put{{number, m.fresh[cellOld]}}); err != api.OK {
			return err
		}
	}
	return m.keep([]put{{cellNote, 0}})
}

func isEntry(number, count int) bool { return 1 <= number && number <= count }

func (b *Book) isNone() bool { return b == nil || b.memory == nil }

// fault returns the error of a call that is to add a number, or to change an entry to it.
func (b *Book) fault(n int) api.Errno {
	if b.isNone() {
		return api.ErrKeep
	}
	if b.era != b.memory.era {
		return api.ErrDown
	}
	if !isNumber(n) {
		return api.ErrEntry
	}
	return api.OK
}

// Add adds a number behind the entries.
func (b *Book) Add(n int) api.Errno {
	if err := b.fault(n); err != api.OK {
		return err
	}
	if len(b.entries) == api.MaxBook {
		return api.ErrLimit
	}
	count := len(b.entries) + 1
	if err := b.memory.keep([]put{{count, n}}, []put{{cellCount, count}}); err != api.OK {
		return err
	}
	b.entries = append(b.entries, n)
	return api.OK
}

// Change changes the entry with a number, from 1 on.
func (b *Book) Change(number, n int) api.Errno {
	if err := b.fault(n); err != api.OK {
		return err
	}
	if !isEntry(number, len(b.entries)) {
		return api.ErrNone
	}
	err := b.memory.keep(
		[]put{{cellNumber, number}, {cellOld, b.entries[number-1]}},
		[]put{{cellNote, 1}},
		[]put{{number, n}},
		[]put{{cellNote, 0}},
	)
	if err != api.OK {
		return err
	}
	b.entries[number-1] = n
	return api.OK
}

// Entries returns what the book has, also without power.
func (b *Book) Entries() []int {
	if b.isNone() {
		return nil
	}
	return slices.Clone(b.entries)
}

// Ask answers a question: size, says or count.
func (b *Book) Ask(line string) (string, api.Errno) {
	if b.isNone() {
		return "", api.ErrKeep
	}
	switch line {
	case "size":
		return b.size()
	case "says":
		return b.says()
	case "count":
		return strconv.Itoa(len(b.entries)), api.OK
	default:
		return "", api.ErrCommand
	}
}

// modulo returns the entries modulo n.
func (b *Book) modulo(n int) []int {
	word := b.Entries()
	for i := range word {
		word[i] %= n
	}
	return word
}

// size tells how many words there are in the class of the entries, as letters.
func (b *Book) size() (string, api.Errno) {
	if len(b.entries) > api.MaxLength {
		return "", api.ErrLimit
	}
	letters := api.Letters{N: 4, Pairs: [][2]int{{0, 1}, {2, 3}}}
	size, err := weave.Size(letters, b.modulo(letters.N))
	if err != api.OK {
		return "", err
	}
	return strconv.Itoa(size), api.OK
}

// says tells what a flag answers to the entries, as calls.
func (b *Book) says() (string, api.Errno) {
	flag := api.Spec{States: 2, Ops: 2, Next: [][]int{{1, 0}, {1, 1}}, Says: [][]int{{0, 0}, {0, 1}}}
	answers, _, err := spec.Run(flag, 0, b.modulo(flag.Ops))
	if err != api.OK {
		return "", err
	}
	return joined(answers, " "), api.OK
}

// joined is numbers in decimal, with a text between them.
func joined(numbers []int, between string) string {
	var words []string
	for _, n := range numbers {
		words = append(words, strconv.Itoa(n))
	}
	return strings.Join(words, between)
}
