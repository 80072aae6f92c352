package hazard_test

import (
	"fmt"
	"slices"
	"strings"
	"testing"

	"lineal/api"
	"lineal/hazard"
)

// deeds makes deeds of a text: for each of them the digits Do, A, B and C; those that are missing are 0.
func deeds(text string) []hazard.Deed {
	var list []hazard.Deed
	for _, word := range strings.Fields(text) {
		var n [4]int
		for i, digit := range word {
			n[i] = int(digit - '0')
		}
		list = append(list, hazard.Deed{Do: n[0], A: n[1], B: n[2], C: n[3]})
	}
	return list
}

func fresh(t *testing.T, threads, size int) *hazard.Yard {
	t.Helper()
	y, err := hazard.New(threads, size)
	if y == nil || err != api.OK {
		t.Fatalf("New(%d, %d): %v, %d", threads, size, y, err)
	}
	return y
}

// yard returns a new yard with which deeds are done that have no errors.
func yard(t *testing.T, threads, size int, text string) *hazard.Yard {
	t.Helper()
	y := fresh(t, threads, size)
	for _, d := range deeds(text) {
		if _, err := y.Do(d); err != api.OK {
			t.Fatalf("Do(%v) of %s: %d", d, text, err)
		}
	}
	return y
}

// view is all that a yard tells: states, slots and lists, how many nodes are by and free, and those that are held.
func view(t *testing.T, y *hazard.Yard, threads int) string {
	t.Helper()
	var parts []any
	add := func(part any, err api.Errno) {
		if err != api.OK {
			t.Fatalf("what a yard tells: the error %d", err)
		}
		parts = append(parts, part)
	}
	for node := range 8 {
		add(y.State(node))
	}
	for thread := range threads {
		for slot := range 2 {
			add(y.Slot(thread, slot))
		}
		list, err := y.List(thread)
		add(fmt.Sprint(list), err)
	}
	return fmt.Sprint(append(parts, y.By(), y.Free(), y.Held())...)
}

func TestNew(t *testing.T) { // P6.2
	numbers := []int{-1 << 63, -1, 0, 1, 2, 3, 4, 5, 8, 1 << 62, 1<<63 - 1}
	for _, threads := range numbers {
		for _, size := range numbers {
			y, err := hazard.New(threads, size)
			if threads < 1 || threads > 4 || size < 1 || size > 4 {
				if y != nil || err != api.ErrArg {
					t.Errorf("New(%d, %d): %v, %d", threads, size, y, err)
				}
				continue
			}
			if err != api.OK || view(t, y, threads) != newSlow(threads, size).view() {
				t.Errorf("New(%d, %d): %v, %d", threads, size, view(t, y, threads), err)
			}
			if _, err := y.Take(threads); err != api.ErrArg {
				t.Errorf("Take of the thread %d of %d: %d", threads, threads, err)
			}
			if put := putsByUntilSwept(t, y); put != size {
				t.Errorf("a yard of the size %d sweeps behind %d nodes", size, put)
			}
		}
	}
}

// putsByUntilSwept returns how many nodes the last thread puts by until some are freed.
func putsByUntilSwept(t *testing.T, y *hazard.Yard) int {
	t.Helper()
	for put := 1; put < 8; put++ {
		node, _ := y.Take(0)
		freed, err := y.PutBy(0, node)
		if err != api.OK || freed != 0 && freed != put {
			t.Fatalf("PutBy(0, %d): %d, %d", node, freed, err)
		}
		if freed > 0 {
			return put
		}
	}
	return 0
}

func TestDeeds(t *testing.T) { // P6.3, P6.4, P6.5
	for _, c := range []struct {
		name          string
		threads, size int
		deeds         string
		want          []int
	}{
		{"the first example", 2, 1, "10 2100 400 310 50", []int{0, 0, 0, 0, 1}},
		{"the second example", 2, 2, "10 10 400 401", []int{0, 1, 0, 2}},
		{"take the least node that is free", 1, 4, "10 10 10 401 50 10 10", []int{0, 1, 2, 0, 1, 1, 3}},
		{"take none", 4, 4, "10 11 12 13 10 10 10 10 10 13", []int{0, 1, 2, 3, 4, 5, 6, 7, -5, -5}},
		{"what is by is not taken", 1, 4, "10 10 10 10 10 10 10 10 403 10 50 10 10", []int{0, 1, 2, 3, 4, 5, 6, 7, 0, -5, 1, 3, -5}},
		{"point at what is free or by", 1, 2, "2000 2007 10 2000 400 2010 2000 601 600", []int{-5, -5, 0, 0, 0, -5, -5, -5, 0}},
		{"point elsewhere", 1, 1, "10 10 2000 2001 600 400 401", []int{0, 1, 0, 0, 1, 1, 0}},
		{"point in vain", 1, 1, "10 2000 2001 600 400", []int{0, 0, -5, 0, 0}},
		{"both slots point", 1, 1, "10 2000 2010 300 400 301 50", []int{0, 0, 0, 0, 0, 0, 1}},
		{"the last slot points", 4, 1, "10 2310 402 400 50 330 50 331 52 50", []int{0, 0, -5, 0, 0, 0, 0, 0, 0, 1}},
		{"clear what is empty", 2, 1, "300 310 311 600 300", []int{0, 0, 0, -5, 0}},
		{"clear one slot", 1, 1, "10 2000 2010 300 600 601", []int{0, 0, 0, 0, -5, 0}},
		{"put by what is not in", 2, 4, "400 10 400 400 410 407", []int{-5, 0, 0, -5, -5, -5}},
		{"put by what another one takes", 3, 1, "10 420", []int{0, 1}},
		{"put by again", 1, 1, "10 400 400 10 400", []int{0, 1, -5, 0, 1}},
		{"sweep behind as many as the size", 1, 3, "10 10 10 402 400 401", []int{0, 1, 2, 0, 0, 3}},
		{"sweep behind more than the size", 1, 2, "10 10 10 10 2000 2011 400 401 402 403 50", []int{0, 1, 2, 3, 0, 0, 0, 0, 1, 1, 0}},
		{"lists are not swept together", 2, 2, "10 10 10 400 411 51 402 51", []int{0, 1, 2, 0, 0, 1, 2, 0}},
		{"sweep what is not held", 2, 4, "10 10 10 2101 400 401 402 50 311 50 310 50", []int{0, 1, 2, 0, 0, 0, 0, 2, 0, 0, 0, 1}},
		{"sweep nothing", 1, 1, "50 10 50 50", []int{0, 0, 0, 0}},
		{"use what is by", 2, 1, "610 10 2100 400 610 310 610", []int{-5, 0, 0, 0, 0, 0, -5}},
		{"use the other slot", 2, 1, "10 10 2111 611 610 601", []int{0, 1, 0, 1, -5, -5}},
		{"no deeds", 1, 1, "", nil},
		{"none that is a deed", 1, 1, "00 70 90 01", []int{-2, -2, -2, -2}},
		{"fields too many", 2, 1, "10 101 1001 20 2001 3001 4001 501 5001 6001 3 60", []int{0, -2, -2, 0, -5, -2, -2, -2, -2, -2, 0, -5}},
	} {
		if l, err := hazard.Play(c.threads, c.size, deeds(c.deeds)); !slices.Equal(l, c.want) || err != api.OK {
			t.Errorf("%s: %v, %d, not %v", c.name, l, err, c.want)
		}
	}
}

func TestPlay(t *testing.T) { // P6.5
	for _, n := range []int{0, 1, 99, 100, 101, 102, 1000} {
		l, err := hazard.Play(1, 1, slices.Repeat(deeds("50"), n))
		if n > 100 && (len(l) > 0 || err != api.ErrArg) || n <= 100 && (!slices.Equal(l, make([]int, n)) || err != api.OK) {
			t.Errorf("Play of %d deeds: %v, %d", n, l, err)
		}
	}
	for _, of := range [][2]int{{0, 1}, {1, 0}, {5, 1}, {1, 5}, {-1, -1}, {1 << 62, 1 << 62}} {
		for _, n := range []int{0, 1, 101} {
			if l, err := hazard.Play(of[0], of[1], slices.Repeat(deeds("50"), n)); len(l) > 0 || err != api.ErrArg {
				t.Errorf("Play of a yard %v: %v, %d", of, l, err)
			}
		}
	}
}

// TestView checks what a yard tells behind deeds, each with its number of deeds.
func TestView(t *testing.T) { // P6.6
	for _, c := range []struct {
		threads, size int
		deeds         string
		states        [8]int
		lists         [][]int
		slots         [][2]int
		by, free      int
		held          []int
	}{
		{1, 1, "", [8]int{}, [][]int{nil}, [][2]int{{-1, -1}}, 0, 8, nil},
		{2, 4, "10 11 10 402 400", [8]int{2, 1, 2}, [][]int{{2, 0}, nil}, [][2]int{{-1, -1}, {-1, -1}}, 2, 5, nil},
		{2, 3, "10 10 10 10 2013 2101 2113 411 413", [8]int{1, 2, 1, 2}, [][]int{nil, {1, 3}}, [][2]int{{-1, 3}, {1, 3}}, 2, 4, []int{1, 3}},
		{2, 2, "10 10 10 2002 2010 402 401 400", [8]int{2, 0, 2}, [][]int{{2, 0}, nil}, [][2]int{{2, 0}, {-1, -1}}, 2, 6, []int{0, 2}},
		{1, 1, "10 2000 400 300 50", [8]int{}, [][]int{nil}, [][2]int{{-1, -1}}, 0, 8, nil},
		{4, 1, "10 10 10 10 10 10 10 10 2300 2317 437", [8]int{1, 1, 1, 1, 1, 1, 1, 2}, [][]int{nil, nil, nil, {7}}, [][2]int{{-1, -1}, {-1, -1}, {-1, -1}, {0, 7}}, 1, 0, []int{0, 7}},
	} {
		y := yard(t, c.threads, c.size, c.deeds)
		for node, want := range c.states {
			if n, err := y.State(node); n != want || err != api.OK {
				t.Errorf("%s: State(%d): %d, %d", c.deeds, node, n, err)
			}
		}
		for thread, want := range c.lists {
			if l, err := y.List(thread); !slices.Equal(l, want) || err != api.OK {
				t.Errorf("%s: List(%d): %v, %d", c.deeds, thread, l, err)
			}
		}
		for thread, slots := range c.slots {
			for slot, want := range slots {
				if n, err := y.Slot(thread, slot); n != want || err != api.OK {
					t.Errorf("%s: Slot(%d, %d): %d, %d", c.deeds, thread, slot, n, err)
				}
			}
		}
		if y.By() != c.by || y.Free() != c.free || !slices.Equal(y.Held(), c.held) {
			t.Errorf("%s: By %d, Free %d, Held %v", c.deeds, y.By(), y.Free(), y.Held())
		}
	}
}

func TestSame(t *testing.T) { // P6.2
	for _, c := range []struct {
		name          string
		threads, size int
		deeds         string
		others        [2]int
		other         string
		want          bool
	}{
		{"new ones", 3, 2, "", [2]int{3, 2}, "", true},
		{"other threads", 3, 2, "", [2]int{2, 2}, "", false},
		{"another size", 3, 2, "", [2]int{3, 3}, "", false},
		{"other nodes", 1, 2, "10", [2]int{1, 2}, "", false},
		{"in or by", 1, 2, "10", [2]int{1, 2}, "10 400", false},
		{"other slots", 1, 2, "10 2000", [2]int{1, 2}, "10", false},
		{"the other slot", 1, 2, "10 2000", [2]int{1, 2}, "10 2010", false},
		{"another thread's slot", 2, 2, "10 2000", [2]int{2, 2}, "10 2100", false},
		{"another thread's list", 2, 2, "10 400", [2]int{2, 2}, "10 410", false},
		{"another order of a list", 1, 3, "10 10 400 401", [2]int{1, 3}, "10 10 401 400", false},
		{"who takes", 2, 2, "10", [2]int{2, 2}, "11", true},
		{"what was held", 1, 1, "10 2000 300", [2]int{1, 1}, "10", true},
		{"what was on a list", 1, 4, "10 10 10 400 401 402 50", [2]int{1, 4}, "", true},
		{"what is left on a list", 1, 4, "10 10 10 2001 400 402 401 50", [2]int{1, 4}, "10 10 2001 400 50 401", true},
		{"which was freed first", 1, 2, "10 10 400 401", [2]int{1, 2}, "10 10 401 400", true},
	} {
		y, z := yard(t, c.threads, c.size, c.deeds), yard(t, c.others[0], c.others[1], c.other)
		if hazard.Same(y, z) != c.want || hazard.Same(z, y) != c.want || !hazard.Same(y, y) {
			t.Errorf("Same, %s: not %v", c.name, c.want)
		}
	}
}

func TestCopy(t *testing.T) { // P6.2, P6.10
	text := "10 10 10 10 2000 2013 2110 400 403 411"
	y := yard(t, 2, 3, text)
	c, before := y.Copy(), view(t, y, 2)
	if c == y || !hazard.Same(c, y) || view(t, c, 2) != before {
		t.Fatalf("Copy: %s, not %s", view(t, c, 2), before)
	}
	for _, more := range deeds("50 51 10 2001 300 301 310 402 50 51") {
		c.Do(more)
		if view(t, y, 2) != before || !hazard.Same(y, yard(t, 2, 3, text)) {
			t.Fatalf("%v with the copy: %s, not %s", more, view(t, y, 2), before)
		}
	}
	c = y.Copy()
	for _, more := range deeds("402 10 2000 411 300 50") {
		y.Do(more)
		if view(t, c, 2) != before || !hazard.Same(c, yard(t, 2, 3, text)) {
			t.Fatalf("%v with the yard: the copy is %s, not %s", more, view(t, c, 2), before)
		}
	}
}
