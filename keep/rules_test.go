package keep_test

import (
	"slices"
	"strings"
	"testing"

	"lineal/api"
	"lineal/keep"
)

// answer is what a call returns: whether everything beside the error is zero, and the error.
type answer struct {
	zero bool
	err  api.Errno
}

func numbered(n int, err api.Errno) answer       { return answer{n == 0, err} }
func worded(text string, err api.Errno) answer   { return answer{text == "", err} }
func booked(b *keep.Book, err api.Errno) answer  { return answer{b == nil, err} }
func listed(list []string, err api.Errno) answer { return answer{len(list) == 0, err} }
func alone(err api.Errno) answer                 { return answer{true, err} }

func check(t *testing.T, all map[string]answer, err api.Errno) {
	t.Helper()
	for name, a := range all {
		if !a.zero || a.err != err {
			t.Errorf("%s: %v, not the error %d", name, a, err)
		}
	}
}

// noCells returns numbers that are no cells.
func noCells() []int {
	return []int{-1 << 63, -1 << 32, -1, 64, 65, 1 << 32, 1<<32 + 1, 1 << 62, 1<<63 - 1}
}

// noNumbers returns numbers that no cell has.
func noNumbers() []int { return []int{-1 << 63, -1 << 32, -1, 1000, 1001, 1 << 32, 1<<63 - 1} }

// noSteps returns numbers that no plan has.
func noSteps() []int { return []int{-1 << 63, -1, 0, 1001, 1 << 32, 1<<32 + 1, 1<<63 - 1} }

// TestNoMemory checks that a memory that is nil, or zero, has ErrKeep before all others, and nothing else (R7).
func TestNoMemory(t *testing.T) { // P10.1, P10.2, P10.3
	some := keep.New()
	for _, m := range []*keep.Memory{nil, {}, new(keep.Memory)} {
		for _, n := range append(noCells(), 0, 1) {
			check(t, map[string]answer{
				"Write":               alone(m.Write(n, n)),
				"Flush":               alone(m.Flush(n)),
				"Fence":               alone(m.Fence()),
				"Read":                numbered(m.Read(n)),
				"Kept":                numbered(m.Kept(n)),
				"Fail":                alone(m.Fail(n, []int{n})),
				"Fail of many cells":  alone(m.Fail(1, make([]int, 11))),
				"Crash":               alone(m.Crash([]int{n})),
				"Crash of many cells": alone(m.Crash(make([]int, 11))),
				"Crash of none":       alone(m.Crash(nil)),
				"Start":               alone(m.Start()),
				"Open":                booked(keep.Open(m)),
			}, api.ErrKeep)
		}
		if m.Power() || m.Steps() != 0 || m.Copy() != nil {
			t.Errorf("a nil memory has something")
		}
		if !keep.SameMemory(m, nil) || !keep.SameMemory(nil, m) || !keep.SameMemory(m, &keep.Memory{}) || keep.SameMemory(m, some) || keep.SameMemory(some, m) {
			t.Errorf("SameMemory of a nil memory")
		}
		if m != nil && *m != (keep.Memory{}) {
			t.Errorf("a zero memory is changed")
		}
	}
}

// TestNoBook checks that a book that is nil, or zero, has ErrKeep before all others, and nothing else (R7).
func TestNoBook(t *testing.T) { // P10.3, P10.4
	for _, b := range []*keep.Book{nil, {}, new(keep.Book)} {
		for _, n := range append(noNumbers(), 0, 1) {
			check(t, map[string]answer{"Add": alone(b.Add(n)), "Change": alone(b.Change(n, n))}, api.ErrKeep)
		}
		for _, line := range []string{"", "what", "size", "says", "count"} {
			check(t, map[string]answer{line: worded(b.Ask(line))}, api.ErrKeep)
		}
		if len(b.Entries()) != 0 {
			t.Errorf("a nil book has entries")
		}
	}
}

// TestErrArg checks that what is no cell, number or plan is found with and without power, and has no effect.
func TestErrArg(t *testing.T) { // P10.1, P10.2, P10.9
	for _, text := range []string{"", "w0=1 f0 w1=2 p1:0,1", "w0=1 f0 w1=2 p1:0,1 c0", "o a7 h1=2", "o a7 h1=2 c-"} {
		m := behind(t, text).m
		before, steps := m.Copy(), m.Steps()
		for _, n := range noCells() {
			check(t, map[string]answer{
				"Write":                  alone(m.Write(n, 0)),
				"Flush":                  alone(m.Flush(n)),
				"Read":                   numbered(m.Read(n)),
				"Kept":                   numbered(m.Kept(n)),
				"Fail":                   alone(m.Fail(1, []int{n})),
				"Fail of the last cell":  alone(m.Fail(1, []int{0, 1, 2, 3, 4, 5, 6, 7, 8, n})),
				"Crash":                  alone(m.Crash([]int{n})),
				"Crash of the last cell": alone(m.Crash([]int{0, 1, 2, 3, 4, 5, 6, 7, 8, n})),
			}, api.ErrArg)
		}
		for _, n := range noNumbers() {
			check(t, map[string]answer{"Write": alone(m.Write(0, n))}, api.ErrArg)
		}
		for _, n := range noSteps() {
			check(t, map[string]answer{"Fail": alone(m.Fail(n, nil)), "Fail with a cell": alone(m.Fail(n, []int{0}))}, api.ErrArg)
		}
		for _, n := range []int{11, 12, 64, 1000} {
			check(t, map[string]answer{"Fail": alone(m.Fail(1, make([]int, n))), "Crash": alone(m.Crash(make([]int, n)))}, api.ErrArg)
		}
		if !keep.SameMemory(m, before) || m.Steps() != steps {
			t.Errorf("behind %q: an error with an effect", text)
		}
	}
}

// TestErrDown checks all that needs power, on a memory that has none, and that this has no effect.
func TestErrDown(t *testing.T) { // P10.1, P10.2, P10.3
	w := behind(t, "o a7 w1=5 f1 c0")
	before := w.m.Copy()
	for _, n := range append(noNumbers(), 0, 1, 2, 63) {
		check(t, map[string]answer{"Add": alone(w.b.Add(n)), "Change": alone(w.b.Change(n, n)), "Change 1": alone(w.b.Change(1, n))}, api.ErrDown)
	}
	for _, cell := range []int{0, 1, 63} {
		check(t, map[string]answer{
			"Write": alone(w.m.Write(cell, 0)),
			"Flush": alone(w.m.Flush(cell)),
			"Fence": alone(w.m.Fence()),
			"Read":  numbered(w.m.Read(cell)),
			"Fail":  alone(w.m.Fail(1, []int{cell})),
			"Crash": alone(w.m.Crash([]int{cell})),
		}, api.ErrDown)
	}
	if !keep.SameMemory(w.m, before) || w.m.Steps() != before.Steps() {
		t.Errorf("something is done without power")
	}
	// A book that is old has no effect either, nor does a plan go on with it.
	w.do(t, "o")
	old := w.b
	w.do(t, "o p3:1")
	before = w.m.Copy()
	for _, n := range append(noNumbers(), 0, 1, 2) {
		check(t, map[string]answer{"Add": alone(old.Add(n)), "Change": alone(old.Change(n, n)), "Change 1": alone(old.Change(1, n))}, api.ErrDown)
	}
	if !keep.SameMemory(w.m, before) || w.m.Steps() != before.Steps() || !slices.Equal(old.Entries(), []int{7}) {
		t.Errorf("something is done with an old book")
	}
}

// TestErrorsOfBooks checks that errors of arguments come in their order, and have no effect.
func TestErrorsOfBooks(t *testing.T) { // P10.3, P10.9
	full := strings.Repeat(" a5", 20)
	for _, text := range []string{"o", "o a7", "o a7 p1:0", "o" + full, "o" + full + " p1:0"} {
		w := behind(t, text)
		before, steps, entries := w.m.Copy(), w.m.Steps(), w.b.Entries()
		for _, n := range noNumbers() {
			check(t, map[string]answer{"Add": alone(w.b.Add(n)), "Change": alone(w.b.Change(n, n)), "Change 1": alone(w.b.Change(1, n))}, api.ErrEntry)
		}
		for _, number := range []int{-1 << 63, -1, 0, len(entries) + 1, 21, 40, 64, 1<<63 - 1} {
			check(t, map[string]answer{"Change": alone(w.b.Change(number, 0))}, api.ErrNone)
		}
		if len(entries) == 20 {
			check(t, map[string]answer{"Add": alone(w.b.Add(0))}, api.ErrLimit)
		}
		if !keep.SameMemory(w.m, before) || w.m.Steps() != steps || !slices.Equal(w.b.Entries(), entries) {
			t.Errorf("behind %q: an error with an effect", text)
		}
		for _, line := range []string{"", "what", "list", "size "} {
			check(t, map[string]answer{line: worded(w.b.Ask(line))}, api.ErrCommand)
		}
		if len(entries) == 20 {
			check(t, map[string]answer{"size": worded(w.b.Ask("size"))}, api.ErrLimit)
		}
	}
}

// TestErrorsOfOpen checks which error Open has if there is no book, and power would fail as well.
func TestErrorsOfOpen(t *testing.T) { // P10.3
	for _, text := range []string{"w0=21 w40=1 w41=1 p1:0", "w0=999 w40=1 w41=1 p1:0"} {
		m := behind(t, text).m
		before := m.Copy()
		check(t, map[string]answer{"Open": booked(keep.Open(m))}, api.ErrKeep)
		if !keep.SameMemory(m, before) {
			t.Errorf("Open changes a memory with power without a book")
		}
		check(t, map[string]answer{"Fence": alone(m.Fence())}, api.ErrDown)
		check(t, map[string]answer{"Open": booked(keep.Open(m))}, api.ErrKeep)
		if !m.Power() {
			t.Errorf("Open has not started the memory")
		}
	}
	m := behind(t, "w0=20 w40=1 w41=1 p1:0").m
	check(t, map[string]answer{"Open": booked(keep.Open(m))}, api.ErrDown)
}

func TestErrorsOfPlay(t *testing.T) { // P10.5
	for _, n := range []int{101, 102, 1000} {
		check(t, map[string]answer{"Play": listed(keep.Play(make([]string, n))), "Play of counts": listed(keep.Play(slices.Repeat([]string{"count"}, n)))}, api.ErrLimit)
	}
}

// spoil writes over a list, up to its capacity.
func spoil[T any](l []T, with T) {
	l = l[:cap(l)]
	for i := range l {
		l[i] = with
	}
}

// TestResultsAreNew checks that results are new memory, that arguments are neither changed nor kept, and that lists are read up to their length alone (R4).
func TestResultsAreNew(t *testing.T) {
	w := behind(t, "o a7 a8")
	for range 2 {
		list := w.b.Entries()
		if !slices.Equal(list, []int{7, 8}) {
			t.Fatalf("Entries: %v", list)
		}
		spoil(list, 9)
	}
	spoil(w.b.Entries(), 9)
	w.do(t, "h1=3 k42=7 a4 l3,8,4 o l3,8,4")
	all := []int{1, 0, 64, -1, 0, 0, 0, 0, 0, 0, 0, 0}
	w.do(t, "w0=2 w1=6 w2=5 w63=1")
	if err := w.m.Fail(1, all[:2]); err != api.OK || !slices.Equal(all, []int{1, 0, 64, -1, 0, 0, 0, 0, 0, 0, 0, 0}) {
		t.Fatalf("Fail: %d, %v", err, all)
	}
	c := w.m.Copy()
	spoil(all, 63)
	w.do(t, "e!101 k0=2 k1=6 k2=8 k63=0")
	(&world{m: c}).do(t, "e!101 k0=2 k1=6 k2=8 k63=0")
	all = []int{2, 64, -1, 0, 0, 0, 0, 0, 0, 0, 0, 0}
	w.do(t, "s w2=1")
	if err := w.m.Crash(all[:1]); err != api.OK || !slices.Equal(all, []int{2, 64, -1, 0, 0, 0, 0, 0, 0, 0, 0, 0}) {
		t.Fatalf("Crash: %d, %v", err, all)
	}
	w.do(t, "k2=1")
	lines := append(make([]string, 0, 200), "add 5", "list", "count")
	for range 2 {
		got, err := keep.Play(lines)
		if !slices.Equal(got, []string{"ok", "5", "1"}) || err != api.OK || !slices.Equal(lines, []string{"add 5", "list", "count"}) {
			t.Fatalf("Play: %q, %d", got, err)
		}
		spoil(got, "ok")
	}
}

// TestEmptyLists checks that an empty list is as a nil one (R4).
func TestEmptyLists(t *testing.T) {
	some := []int{64, 0}
	for _, none := range [][]int{nil, {}, some[:0]} {
		w := behind(t, "w0=1")
		if err := w.m.Fail(1, none); err != api.OK || !keep.SameMemory(w.m, behind(t, "w0=1 p1:-").m) {
			t.Errorf("Fail: %d", err)
		}
		w.do(t, "e!101 k0=0 s w0=1")
		if err := w.m.Crash(none); err != api.OK {
			t.Errorf("Crash: %d", err)
		}
		w.do(t, "0 k0=0")
	}
	for _, none := range [][]string{nil, {}, make([]string, 0, 3)} {
		if l, err := keep.Play(none); len(l) != 0 || err != api.OK {
			t.Errorf("Play of nothing: %v, %d", l, err)
		}
	}
}

// TestEqualInputs checks that a script gives the same answers each time, and starts with a new memory.
func TestEqualInputs(t *testing.T) { // P10.5
	lines := []string{"list", "add 7", "fail 5 0,1", "add 8", "open", "list", "fail 1000 9", "crash 0"}
	want, _ := keep.Play(lines)
	for range 3 {
		if got, err := keep.Play(lines); !slices.Equal(got, want) || got[0] != "-" || err != api.OK {
			t.Errorf("Play again: %q, %d, not %q", got, err, want)
		}
	}
}
