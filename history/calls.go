package history

import (
	"lineal/api"
	"lineal/spec"
)

// maxSaid is the greatest number that a call of a history may say; specifications answer less (api.MaxSays).
const maxSaid = 9

func within(n, least, most int) bool { return least <= n && n <= most }

// isCall reports whether a call may be one of a history.
func isCall(c api.Call) bool {
	open := c.To == 0 && c.Says == 0
	returned := c.From < c.To && c.To <= api.MaxMoment
	return within(c.Thread, 0, api.MaxThreads-1) &&
		within(c.Object, 0, api.MaxObjects-1) &&
		within(c.Op, 0, api.MaxOps-1) &&
		within(c.Says, 0, maxSaid) &&
		within(c.From, 1, api.MaxMoment) &&
		(open || returned)
}

// before reports whether the call a is before the call b.
func before(a, b api.Call) bool { return a.To != 0 && a.To < b.From }

// apart reports whether two calls have no moment in common and, if they are of one thread, one of them is before the other.
func apart(a, b api.Call) bool {
	if a.From == b.From || a.From == b.To || a.To == b.From {
		return false
	}
	if a.To == b.To && a.To != 0 {
		return false
	}
	return a.Thread != b.Thread || before(a, b) || before(b, a)
}

// fits reports whether a valid history is one for valid specs.
func fits(specs []api.Spec, h []api.Call) bool {
	for _, c := range h {
		if c.Object >= len(specs) || c.Op >= specs[c.Object].Ops {
			return false
		}
	}
	return true
}

// check returns the error of a history whose further arguments are as they must be, or not.
func check(h []api.Call, arguments bool) api.Errno {
	if !Valid(h) {
		return api.ErrHistory
	}
	if !arguments {
		return api.ErrArg
	}
	return api.OK
}

// checkSpecs returns the error of specs.
func checkSpecs(specs []api.Spec) api.Errno {
	if !within(len(specs), 1, api.MaxObjects) {
		return api.ErrSpec
	}
	for _, s := range specs {
		if !spec.Valid(s) {
			return api.ErrSpec
		}
	}
	return api.OK
}

// checkFor returns the error of specs and of a history for them.
func checkFor(specs []api.Spec, h []api.Call) api.Errno {
	if err := checkSpecs(specs); err != api.OK {
		return err
	}
	if !Valid(h) || !fits(specs, h) {
		return api.ErrHistory
	}
	return api.OK
}

// told returns what is told of a history, if the checks before found no error.
func told[T any](err api.Errno, tell func() T) (T, api.Errno) {
	if err != api.OK {
		var nothing T
		return nothing, err
	}
	return tell(), api.OK
}

func isIndex(h []api.Call, call int) bool { return 0 <= call && call < len(h) }

// those returns the calls that are asked for, in order.
func those(h []api.Call, is func(c api.Call) bool) []api.Call {
	var list []api.Call
	for _, c := range h {
		if is(c) {
			list = append(list, c)
		}
	}
	return list
}

// width returns how many calls are under way at once, at most. The most are so at a moment at which one of them begins.
func width(h []api.Call) int {
	most := 0
	for _, begins := range h {
		underWay := those(h, func(c api.Call) bool {
			return c.From <= begins.From && (c.To == 0 || begins.From <= c.To)
		})
		most = max(most, len(underWay))
	}
	return most
}
