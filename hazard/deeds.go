package hazard

import "lineal/api"

// maxDeeds is how many deeds can be played.
const maxDeeds = 100

// What a deed does.
const (
	doTake = 1 + iota
	doPoint
	doClear
	doPutBy
	doSweep
	doUse
)

// fields is how many of its fields A, B and C a deed has.
var fields = [...]int{doTake: 1, doPoint: 3, doClear: 2, doPutBy: 2, doSweep: 1, doUse: 2}

// Deed is what is done with a yard: Do is what, A the thread, B the slot or the node, C the node; fields that it does not have are 0.
type Deed struct{ Do, A, B, C int }

// isDeed checks that a deed is one, and that the fields that it does not have are 0.
func isDeed(d Deed) check {
	return check{func(*Yard) bool {
		if d.Do < doTake || d.Do > doUse {
			return false
		}
		for _, field := range []int{d.A, d.B, d.C}[fields[d.Do]:] {
			if field != 0 {
				return false
			}
		}
		return true
	}, api.ErrArg}
}

// Do does a deed, and returns its number, or 0 if it has none.
func (y *Yard) Do(d Deed) (int, api.Errno) {
	if err := y.fails(isDeed(d)); err != api.OK {
		return 0, err
	}
	switch d.Do {
	case doTake:
		return y.Take(d.A)
	case doPoint:
		return 0, y.Point(d.A, d.B, d.C)
	case doClear:
		return 0, y.Clear(d.A, d.B)
	case doPutBy:
		return y.PutBy(d.A, d.B)
	case doSweep:
		return y.Sweep(d.A)
	default:
		return y.Use(d.A, d.B)
	}
}

// Play does deeds with a new yard, and returns the number of each, or the opposite of its error.
func Play(threads, size int, deeds []Deed) ([]int, api.Errno) {
	y, err := New(threads, size)
	if err != api.OK {
		return nil, err
	}
	if len(deeds) > maxDeeds {
		return nil, api.ErrArg
	}
	var numbers []int
	for _, d := range deeds {
		number, err := y.Do(d)
		if err != api.OK {
			number = -int(err)
		}
		numbers = append(numbers, number)
	}
	return numbers, api.OK
}
