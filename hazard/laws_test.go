package hazard_test

import (
	"fmt"
	"maps"
	"math/rand/v2"
	"slices"
	"testing"

	"lineal/api"
	"lineal/hazard"
)

// slow is a yard that is written as the document says it. It lacks nothing but the checks of numbers.
type slow struct {
	threads, size int
	where         [8]string
	points        map[[2]int]int // what the slots point at that are not empty
	lists         [4][]int
}

func newSlow(threads, size int) *slow {
	s := &slow{threads: threads, size: size, points: map[[2]int]int{}}
	for node := range s.where {
		s.where[node] = "free"
	}
	return s
}

func (s *slow) copied() *slow {
	c := *s
	c.points = maps.Clone(s.points)
	for thread := range c.lists {
		c.lists[thread] = slices.Clone(s.lists[thread])
	}
	return &c
}

func (s *slow) held() []int {
	list := slices.Sorted(maps.Values(s.points))
	return slices.Compact(list)
}

func (s *slow) nodes(where string) int {
	number := 0
	for _, is := range s.where {
		if is == where {
			number++
		}
	}
	return number
}

// view is as that of a yard.
func (s *slow) view() string {
	var parts []any
	for _, where := range s.where {
		parts = append(parts, map[string]int{"free": 0, "in": 1, "by": 2}[where])
	}
	for thread := range s.threads {
		for slot := range 2 {
			node, points := s.points[[2]int{thread, slot}]
			if !points {
				node = -1
			}
			parts = append(parts, node)
		}
		parts = append(parts, fmt.Sprint(s.lists[thread]))
	}
	return fmt.Sprint(append(parts, s.nodes("by"), s.nodes("free"), s.held())...)
}

// takes reports whether a deed is one, with numbers of the yard.
func (s *slow) takes(d hazard.Deed) bool {
	thread, slot := func(n int) bool { return 0 <= n && n < s.threads }, func(n int) bool { return n == 0 || n == 1 }
	node, none := func(n int) bool { return 0 <= n && n < 8 }, func(n int) bool { return n == 0 }
	kinds := map[int][3]func(int) bool{
		1: {thread, none, none}, 2: {thread, slot, node}, 3: {thread, slot, none},
		4: {thread, node, none}, 5: {thread, none, none}, 6: {thread, slot, none},
	}
	kind, is := kinds[d.Do]
	return is && kind[0](d.A) && kind[1](d.B) && kind[2](d.C)
}

// do does a deed, and returns its number, or the opposite of its error.
func (s *slow) do(d hazard.Deed) int {
	if !s.takes(d) {
		return -2
	}
	at := [2]int{d.A, d.B}
	switch d.Do {
	case 1:
		for node, where := range s.where {
			if where == "free" {
				s.where[node] = "in"
				return node
			}
		}
		return -5
	case 2:
		if s.where[d.C] != "in" {
			return -5
		}
		s.points[at] = d.C
	case 3:
		delete(s.points, at)
	case 4:
		if s.where[d.B] != "in" {
			return -5
		}
		s.where[d.B] = "by"
		s.lists[d.A] = append(s.lists[d.A], d.B)
		if len(s.lists[d.A]) >= s.size {
			return s.sweep(d.A)
		}
	case 5:
		return s.sweep(d.A)
	case 6:
		if node, points := s.points[at]; points {
			return node
		}
		return -5
	}
	return 0
}

func (s *slow) sweep(thread int) int {
	freed := 0
	for i := 0; i < len(s.lists[thread]); {
		node := s.lists[thread][i]
		if slices.Contains(s.held(), node) {
			i++
			continue
		}
		s.where[node] = "free"
		s.lists[thread] = slices.Delete(s.lists[thread], i, i+1)
		freed++
	}
	return freed
}

// direct does a deed by the method that is for it.
func direct(y *hazard.Yard, d hazard.Deed) (int, api.Errno) {
	switch d.Do {
	case 1:
		return y.Take(d.A)
	case 2:
		return 0, y.Point(d.A, d.B, d.C)
	case 3:
		return 0, y.Clear(d.A, d.B)
	case 4:
		return y.PutBy(d.A, d.B)
	case 5:
		return y.Sweep(d.A)
	default:
		return y.Use(d.A, d.B)
	}
}

func lists(t *testing.T, y *hazard.Yard, threads int) [][]int {
	t.Helper()
	var all [][]int
	for thread := range threads {
		list, err := y.List(thread)
		if err != api.OK {
			t.Fatalf("List(%d): %d", thread, err)
		}
		all = append(all, list)
	}
	return all
}

// heldAlone reports whether nodes are all held.
func heldAlone(y *hazard.Yard, nodes []int) bool {
	return !slices.ContainsFunc(nodes, func(node int) bool { return !slices.Contains(y.Held(), node) })
}

// checkYard checks what is always so.
func checkYard(t *testing.T, y *hazard.Yard, threads int) { // P6.7, P6.8, P6.9
	t.Helper()
	var nodes [3][]int
	for node := range 8 {
		state, err := y.State(node)
		if err != api.OK {
			t.Fatalf("State(%d): %d", node, err)
		}
		nodes[state] = append(nodes[state], node)
	}
	if y.Free() != len(nodes[0]) || y.By() != len(nodes[2]) || y.Free()+len(nodes[1])+y.By() != 8 {
		t.Fatalf("Free %d, By %d of %v", y.Free(), y.By(), nodes)
	}
	if listed := slices.Sorted(slices.Values(slices.Concat(lists(t, y, threads)...))); !slices.Equal(listed, nodes[2]) {
		t.Fatalf("by are %v, in the lists %v", nodes[2], listed)
	}
	for thread := range threads {
		for slot := range 2 {
			used, err := y.Use(thread, slot)
			node, _ := y.Slot(thread, slot)
			if (err == api.OK) != (node >= 0) || node >= 0 && used != node || slices.Contains(nodes[0], node) {
				t.Fatalf("Use(%d, %d): %d, %d, Slot %d", thread, slot, used, err, node)
			}
		}
	}
	if !heldAlone(y, y.Held()) || slices.ContainsFunc(nodes[0], func(node int) bool { return slices.Contains(y.Held(), node) }) {
		t.Fatalf("held %v, free %v", y.Held(), nodes[0])
	}
}

// checkDeed does a deed with a yard, by Do and directly, and with the slow one, and checks that all is the same behind it, and what a deed promises.
func checkDeed(t *testing.T, y *hazard.Yard, s *slow, d hazard.Deed) int { // P6.3, P6.4, P6.5, P6.8, P6.10
	t.Helper()
	before, was := y.Copy(), view(t, y, s.threads)
	n, err := y.Do(d)
	number := n
	if err != api.OK {
		number = -int(err)
	}
	if want := s.do(d); number != want || err != api.OK && n != 0 || view(t, y, s.threads) != s.view() {
		t.Fatalf("Do(%v) with %s: %d, %d, not %d; then %s, not %s", d, was, n, err, want, view(t, y, s.threads), s.view())
	}
	if view(t, before, s.threads) != was || err != api.OK && !hazard.Same(before, y) {
		t.Fatalf("Do(%v) with %s changes a copy, or has an error and an effect: %d", d, was, err)
	}
	if s.takes(d) {
		if m, other := direct(before, d); m != n || other != err || !hazard.Same(before, y) {
			t.Fatalf("the method of %v with %s: %d, %d, not %d, %d", d, was, m, other, n, err)
		}
	}
	if err == api.OK && (d.Do == 4 || d.Do == 5) {
		checkList(t, y, s.size, d)
	}
	return number
}

// checkList checks the list of a thread that has just put a node by, or swept.
func checkList(t *testing.T, y *hazard.Yard, size int, d hazard.Deed) { // P6.8
	t.Helper()
	list, _ := y.List(d.A)
	if (d.Do == 5 || len(list) >= size) && !heldAlone(y, list) {
		t.Fatalf("the list behind %v: %v, held %v", d, list, y.Held())
	}
	again := y.Copy()
	if n, err := again.Sweep(d.A); d.Do == 5 && (n != 0 || err != api.OK || !hazard.Same(again, y)) {
		t.Fatalf("Sweep again: %d, %d", n, err)
	}
}

// some returns a deed that a yard may take; one in some is off.
func some(d *rand.Rand, threads int) hazard.Deed {
	do := 1 + d.IntN(6)
	n := hazard.Deed{Do: do, A: d.IntN(threads)}
	switch do {
	case 2:
		n.B, n.C = d.IntN(2), d.IntN(8)
	case 3, 6:
		n.B = d.IntN(2)
	case 4:
		n.B = d.IntN(8)
	}
	switch off := d.IntN(10) - 5; d.IntN(40) {
	case 0:
		n.Do = off
	case 1:
		n.A = off
	case 2:
		n.B = off
	case 3:
		n.C = off
	}
	return n
}

func TestYardsAsSaid(t *testing.T) { // P6.7, P6.8, P6.9, P6.10
	d := rand.New(rand.NewPCG(6, 1))
	for run := range 320 {
		threads, size := 1+run%4, 1+run/4%4
		y, s := fresh(t, threads, size), newSlow(threads, size)
		var done []hazard.Deed
		var numbers []int
		for range 100 {
			deed := some(d, threads)
			done = append(done, deed)
			numbers = append(numbers, checkDeed(t, y, s, deed))
			checkYard(t, y, threads)
		}
		if l, err := hazard.Play(threads, size, done); !slices.Equal(l, numbers) || err != api.OK {
			t.Fatalf("Play of %v: %v, %d, not %v", done, l, err, numbers)
		}
		for thread := range threads {
			y.Clear(thread, 0)
			y.Clear(thread, 1)
		}
		for thread := range threads {
			y.Sweep(thread)
		}
		if y.By() != 0 || len(y.Held()) != 0 {
			t.Fatalf("no slot points, and all have swept: By %d, Held %v", y.By(), y.Held())
		}
	}
}

// TestAllDeeds does, in each state to which deeds with the nodes 0 and 1 alone lead, each of these deeds.
func TestAllDeeds(t *testing.T) { // P6.7, P6.8, P6.9, P6.10
	for _, of := range [][2]int{{1, 1}, {1, 2}, {2, 1}, {2, 2}, {2, 3}} {
		threads, size := of[0], of[1]
		type place struct {
			y *hazard.Yard
			s *slow
		}
		places := []place{{fresh(t, threads, size), newSlow(threads, size)}}
		known := map[string]bool{places[0].s.view(): true}
		for i := 0; i < len(places); i++ {
			checkYard(t, places[i].y, threads)
			for _, d := range all(places[i].s) {
				y, s := places[i].y.Copy(), places[i].s.copied()
				checkDeed(t, y, s, d)
				if s.where[2] == "free" && !known[s.view()] {
					known[s.view()] = true
					places = append(places, place{y, s})
				}
			}
		}
		if len(places) < 20 {
			t.Errorf("places: %d", len(places))
		}
	}
}

// all returns the deeds that use the nodes 0 and 1 alone.
func all(s *slow) []hazard.Deed {
	var list []hazard.Deed
	for do := 1; do <= 6; do++ {
		for code := range 16 {
			d := hazard.Deed{Do: do, A: code / 4, B: code / 2 % 2, C: code % 2}
			if s.takes(d) {
				list = append(list, d)
			}
		}
	}
	return list
}

// TestSameAsTold checks that yards are the same exactly if they tell the same, and have the same threads and size.
func TestSameAsTold(t *testing.T) { // P6.2
	d := rand.New(rand.NewPCG(6, 2))
	type told struct {
		y    *hazard.Yard
		text string
	}
	var yards []told
	for run := range 400 {
		threads, size := 1+run%2, 1+run/2%2
		y := fresh(t, threads, size)
		for range d.IntN(12) {
			y.Do(some(d, threads))
		}
		yards = append(yards, told{y, fmt.Sprint(threads, " ", size, " ", view(t, y, threads))})
	}
	equal := 0
	for i, a := range yards {
		for k, b := range yards {
			if hazard.Same(a.y, b.y) != (a.text == b.text) {
				t.Fatalf("Same of %s and %s: %v", a.text, b.text, hazard.Same(a.y, b.y))
			}
			if a.text == b.text && i != k {
				equal++
			}
		}
	}
	if equal < 1000 {
		t.Errorf("equal yards: %d", equal)
	}
}
