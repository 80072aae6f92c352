package progress

import (
	"slices"

	"lineal/api"
)

// maxRank is the greatest number that ranks may have.
const maxRank = 100

// The claims.
const (
	freeOfLocks = iota
	waitsForNobody
	freeAlone
	claims // how many there are
)

// statement is a claim of a graph: no circle in what is reached has only moves that go, and among them one that counts.
// What counts goes, too.
type statement struct {
	graph
	goes, counts func(api.Move) bool
}

// statementOf returns a claim of a graph, if both are valid.
func statementOf(g api.Graph, claim, thread int) (statement, api.Errno) {
	of, err := graphOf(g)
	if err != api.OK {
		return statement{}, err
	}
	if !isBelow(claim, claims) || !isThread(thread) || claim == freeOfLocks && thread != 0 {
		return statement{}, api.ErrArg
	}
	goesOn := func(m api.Move) bool { return !m.Done }
	ownGoesOn := func(m api.Move) bool { return m.Thread == thread && !m.Done }
	notOwnDone := func(m api.Move) bool { return m.Thread != thread || !m.Done }
	switch claim {
	case freeOfLocks:
		return statement{of, goesOn, goesOn}, api.OK
	case waitsForNobody:
		return statement{of, notOwnDone, ownGoesOn}, api.OK
	default:
		return statement{of, ownGoesOn, ownGoesOn}, api.OK
	}
}

// least returns the least rank that a place may have because of a move that begins there.
func (s statement) least(m api.Move, ranks []int) int {
	switch {
	case s.counts(m):
		return ranks[m.To] + 1
	case s.goes(m):
		return ranks[m.To]
	default:
		return 0
	}
}

// broken returns a move from a place that is reached whose rank is too small for it, if there is one: otherwise the ranks prove the claim.
func (s statement) broken(ranks []int) (api.Move, bool) {
	reached := s.reached()
	i := slices.IndexFunc(s.Moves, func(m api.Move) bool {
		return slices.Contains(reached, m.From) && ranks[m.From] < s.least(m, ranks)
	})
	if i < 0 {
		return api.Move{}, false
	}
	return s.Moves[i], true
}

// isRanks reports whether a list has a number for each place.
func (s statement) isRanks(list []int) bool {
	isNone := func(rank int) bool { return !isBelow(rank, maxRank+1) }
	return len(list) == s.Places && !slices.ContainsFunc(list, isNone)
}

// ranks returns the least ranks that prove the claim, if it holds. They are raised from 0 on, and only as far as any ranks must be.
// A rank is the number of moves that count on some path of moves that go. If they are as many as the places, the path
// comes to a place again, with one that counts in between.
func (s statement) ranks() ([]int, bool) {
	ranks := make([]int, s.Places)
	for {
		m, is := s.broken(ranks)
		if !is {
			return ranks, true
		}
		ranks[m.From] = s.least(m, ranks)
		if ranks[m.From] >= s.Places {
			return nil, false
		}
	}
}

// circle returns a circle from a place that the claim says there is none of, if there is one that begins with a move that counts.
func (s statement) circle(from int) ([]int, bool) {
	for move, m := range s.Moves {
		if m.From != from || !s.counts(m) {
			continue
		}
		if back, is := s.way(m.To, from, s.goes); is {
			return append([]int{move}, back...), true
		}
	}
	return nil, false
}

// lasso returns a lasso against the claim, if there is one. Each circle that refutes can be begun with a move that counts.
func (s statement) lasso() (path, circle []int, found bool) {
	for place, way := range s.paths(0, anyMove) {
		if circle, found = s.circle(place); found {
			return way, circle, true
		}
	}
	return nil, nil, false
}

// isLasso reports whether two lists are a lasso against the claim.
func (s statement) isLasso(path, circle []int) bool {
	begin, is := s.leads(0, path)
	if !is {
		return false
	}
	end, is := s.leads(begin, circle)
	if !is || end != begin {
		return false
	}
	stops := func(move int) bool { return !s.goes(s.Moves[move]) }
	counts := func(move int) bool { return s.counts(s.Moves[move]) }
	return !slices.ContainsFunc(circle, stops) && slices.ContainsFunc(circle, counts)
}
