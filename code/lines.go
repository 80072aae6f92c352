package code

import (
	"slices"

	"lineal/api"
)

// What a line does.
const (
	reads = iota + 1
	writes
	swaps
	sets
	adds
	jumps
	returns
)

const (
	// registers is how many registers a thread has.
	registers = 4
	// fitted is the register that tells whether a swap fitted.
	fitted = 3
	// numbers is how many numbers there are for cells and registers, from 0 on.
	numbers = 10
)

const (
	// maxUsers is how many threads a use may have.
	maxUsers = 2
	// maxTurns is how many calls a thread of a use may have.
	maxTurns = 3
)

func isBelow(number, end int) bool { return 0 <= number && number < end }

func isCell(cell int) bool { return isBelow(cell, api.MaxCells) }

func isRegister(register int) bool { return isBelow(register, registers) }

// bare returns a line with 0 for what such a line has no use for.
func bare(l api.Line) api.Line {
	switch l.Do {
	case swaps, adds:
		return l
	case returns:
		return api.Line{Do: l.Do, A: l.A}
	default:
		return api.Line{Do: l.Do, A: l.A, B: l.B}
	}
}

// isLine reports whether a line may be one of a call that has so many of them.
func isLine(l api.Line, lines int) bool {
	if l != bare(l) {
		return false
	}
	switch l.Do {
	case reads:
		return isRegister(l.A) && isCell(l.B)
	case writes:
		return isCell(l.A) && isRegister(l.B)
	case swaps:
		return isCell(l.A) && isRegister(l.B) && isRegister(l.C)
	case sets:
		return isRegister(l.A) && isBelow(l.B, numbers)
	case adds:
		return isRegister(l.A) && isRegister(l.B) && isRegister(l.C)
	case jumps:
		return isRegister(l.A) && isBelow(l.B, lines)
	case returns:
		return isRegister(l.A)
	}
	return false
}

// isCall reports whether lines are those of a call.
func isCall(lines []api.Line) bool {
	count := len(lines)
	if count < 1 || count > api.MaxLines || lines[count-1].Do != returns {
		return false
	}
	isNone := func(l api.Line) bool { return !isLine(l, count) }
	return !slices.ContainsFunc(lines, isNone)
}

// isWord reports whether a list has calls of the code that one thread may do.
func isWord(c [][]api.Line, word []int) bool {
	isNone := func(op int) bool { return !isBelow(op, len(c)) }
	return len(word) <= maxTurns && !slices.ContainsFunc(word, isNone)
}

// isUse reports whether a list is a use of the code.
func isUse(c [][]api.Line, use [][]int) bool {
	isNone := func(word []int) bool { return !isWord(c, word) }
	return len(use) >= 1 && len(use) <= maxUsers && !slices.ContainsFunc(use, isNone)
}

// areMarks reports whether a list has the index of a line for each call of the code.
func areMarks(c [][]api.Line, marks []int) bool {
	if len(marks) != len(c) {
		return false
	}
	for op, line := range marks {
		if !isBelow(line, len(c[op])) {
			return false
		}
	}
	return true
}

// exchanged returns a line with two cells exchanged.
func exchanged(l api.Line, a, b int) api.Line {
	other := func(cell int) int {
		switch cell {
		case a:
			return b
		case b:
			return a
		}
		return cell
	}
	switch l.Do {
	case reads:
		l.B = other(l.B)
	case writes, swaps:
		l.A = other(l.A)
	}
	return l
}
