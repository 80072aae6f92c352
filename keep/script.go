package keep

import (
	"strconv"
	"strings"

	"lineal/api"
)

const (
	maxWords  = 3 // the most words that a line has
	maxDigits = 4 // the most digits that a number has
	nothing   = "-"
)

// script is the memory of a script, and the book that was opened on it last.
type script struct {
	memory *Memory
	book   *Book
}

// command is what a line says; its answer is ok, if it has no error and is no teller.
type command interface {
	do(s *script) api.Errno
}

// teller is a command that, when it has been done, has an answer of its own.
type teller interface {
	told() string
}

type (
	add    struct{ n int }
	change struct{ number, n int }
	fail   struct {
		steps int
		early []int
	}
	crash struct{ early []int }
	open  struct{}
	list  struct{ answer string }
	// question is also each line that is no command: Ask has the error for it.
	question struct{ line, answer string }
)

func (a add) do(s *script) api.Errno { return s.book.Add(a.n) }

func (c change) do(s *script) api.Errno { return s.book.Change(c.number, c.n) }

func (f fail) do(s *script) api.Errno { return s.memory.Fail(f.steps, f.early) }

func (c crash) do(s *script) api.Errno { return s.memory.Crash(c.early) }

func (open) do(s *script) api.Errno {
	b, err := Open(s.memory)
	if err == api.OK {
		s.book = b
	}
	return err
}

func (l *list) do(s *script) api.Errno {
	l.answer = joined(s.book.Entries(), ",")
	if l.answer == "" {
		l.answer = nothing
	}
	return api.OK
}

func (l *list) told() string { return l.answer }

func (q *question) do(s *script) api.Errno {
	answer, err := s.book.Ask(q.line)
	q.answer = answer
	return err
}

func (q *question) told() string { return q.answer }

// Play does lines with a new memory and a book on it, and returns the answer of each.
func Play(lines []string) ([]string, api.Errno) {
	if len(lines) > api.MaxScript {
		return nil, api.ErrLimit
	}
	s := &script{memory: New()}
	if err := (open{}).do(s); err != api.OK {
		return nil, err
	}
	var answers []string
	for _, line := range lines {
		answers = append(answers, s.answer(commandOf(line)))
	}
	return answers, api.OK
}

// answer does a command, and returns its answer.
func (s *script) answer(c command) string {
	if err := c.do(s); err != api.OK {
		return "error " + strconv.Itoa(int(err))
	}
	if t, ok := c.(teller); ok {
		return t.told()
	}
	return "ok"
}

// commandOf returns the command that a line is.
func commandOf(line string) command {
	words := strings.SplitN(line, " ", maxWords+1)
	if c, ok := deedOf(words[0], words[1:]); ok {
		return c
	}
	if line == "list" {
		return &list{}
	}
	return &question{line: line}
}

// deedOf returns the command with a name and words behind it, if it is one that answers ok.
func deedOf(name string, words []string) (command, bool) {
	switch {
	case name == "add" && len(words) == 1:
		n, ok := numberOf(words[0])
		return add{n}, ok
	case name == "change" && len(words) == 2:
		number, isFirst := numberOf(words[0])
		n, isSecond := numberOf(words[1])
		return change{number, n}, isFirst && isSecond
	case name == "fail" && len(words) == 2:
		steps, isFirst := numberOf(words[0])
		early, isSecond := numbersOf(words[1])
		return fail{steps, early}, isFirst && isSecond
	case name == "crash" && len(words) == 1:
		early, ok := numbersOf(words[0])
		return crash{early}, ok
	case name == "open" && len(words) == 0:
		return open{}, true
	default:
		return open{}, false
	}
}

// numberOf reads a number, in decimal without leading zeros.
func numberOf(word string) (int, bool) {
	if word == "" || len(word) > maxDigits || len(word) > 1 && word[0] == '0' {
		return 0, false
	}
	n := 0
	for _, digit := range word {
		if digit < '0' || digit > '9' {
			return 0, false
		}
		n = 10*n + int(digit-'0')
	}
	return n, true
}

// numbersOf reads numbers with commas between them, or none.
func numbersOf(word string) ([]int, bool) {
	if word == nothing {
		return nil, true
	}
	var numbers []int
	for part := range strings.SplitSeq(word, ",") {
		n, ok := numberOf(part)
		if !ok {
			return nil, false
		}
		numbers = append(numbers, n)
	}
	return numbers, true
}
