package history_test

import (
	"slices"
	"testing"

	"lineal/api"
	"lineal/history"
)

// dice makes numbers that look like chance, but are always the same.
type dice uint32

func (d *dice) below(n int) int {
	*d = *d*1664525 + 1013904223
	return int(*d>>16) % n
}

// sample is a history for specs.
type sample struct {
	specs []api.Spec
	h     []api.Call
}

// samples returns histories of at most some calls. Each call is done at some moment while it is under way;
// in some of them one call then says something else, in others the threads' moments are mixed anew.
func samples(count, most int) []sample {
	d := dice(7)
	kinds := list(queue(), flag(), counter(), still(2))
	var made []sample
	for range count {
		specs := list(kinds[d.below(4)])
		if d.below(2) == 0 {
			specs = append(specs, kinds[d.below(4)])
		}
		h := happened(&d, specs, d.below(most+1))
		switch d.below(3) {
		case 0:
			if at := d.below(len(h) + 1); at < len(h) && h[at].To != 0 {
				h[at].Says = d.below(3)
			}
		case 1:
			mix(&d, h)
		}
		for i := len(h) - 1; i > 0; i-- { // the list is in no order
			k := d.below(i + 1)
			h[i], h[k] = h[k], h[i]
		}
		made = append(made, sample{specs, h})
	}
	return made
}

// happened lets threads begin calls, do them and return, one step at a moment.
func happened(d *dice, specs []api.Spec, calls int) []api.Call {
	var h []api.Call
	var at [2]int
	var current, done [4]int // of each thread: the call that it is in, from 1 on; whether it has been done
	threads := 1 + d.below(4)
	for moment := 1 + d.below(3); moment < 60; moment += 1 + d.below(2) {
		thread := d.below(threads)
		switch {
		case current[thread] == 0 && len(h) < calls:
			object := d.below(len(specs))
			h = append(h, api.Call{Thread: thread, Object: object, Op: d.below(specs[object].Ops), From: moment})
			current[thread], done[thread] = len(h), 0
		case current[thread] != 0 && done[thread] == 0:
			c := &h[current[thread]-1]
			s := specs[c.Object]
			c.Says, at[c.Object] = s.Says[at[c.Object]][c.Op], s.Next[at[c.Object]][c.Op]
			done[thread] = 1
		case current[thread] != 0 && d.below(3) > 0:
			h[current[thread]-1].To = moment
			current[thread] = 0
		}
	}
	for i := range h {
		if h[i].To == 0 {
			h[i].Says = 0
		}
	}
	return h
}

// mix gives the moments of a history to its threads anew; what each thread does stays in its order.
func mix(d *dice, h []api.Call) {
	var moments []int
	var turns [4][]*int
	for i := range h { // a thread's calls are still listed as they begin
		turns[h[i].Thread] = append(turns[h[i].Thread], &h[i].From)
		moments = append(moments, h[i].From)
		if h[i].To != 0 {
			turns[h[i].Thread] = append(turns[h[i].Thread], &h[i].To)
			moments = append(moments, h[i].To)
		}
	}
	slices.Sort(moments)
	for _, moment := range moments {
		thread := d.below(4)
		for len(turns[thread]) == 0 {
			thread = d.below(4)
		}
		*turns[thread][0] = moment
		turns[thread] = turns[thread][1:]
	}
}

// lists returns all lists of different calls out of n, in ascending order.
func lists(n int) [][]int {
	var all [][]int
	var add func(begun []int)
	add = func(begun []int) {
		all = append(all, begun)
		for i := range n {
			if !slices.Contains(begun, i) {
				add(append(slices.Clone(begun), i))
			}
		}
	}
	add(nil)
	return all
}

// known is what the terms say of a list of different calls.
type known struct{ order, time, threads, allowed bool }

// know goes by the terms, one after the other.
func know(s sample, l []int) known {
	k := known{true, true, true, true}
	for i, c := range s.h {
		k.order = k.order && (c.To == 0 || slices.Contains(l, i))
	}
	for i, b := range l {
		for _, a := range l[i+1:] {
			first, behind := s.h[b], s.h[a]
			k.time = k.time && !(behind.To != 0 && behind.To < first.From)
			k.threads = k.threads && !(behind.Thread == first.Thread && behind.From < first.From)
		}
	}
	for object, spec := range s.specs {
		state := 0
		for _, i := range l {
			if c := s.h[i]; c.Object == object {
				k.allowed = k.allowed && (c.To == 0 || spec.Says[state][c.Op] == c.Says)
				state = spec.Next[state][c.Op]
			}
		}
	}
	return k
}

func TestAsTheTermsSay(t *testing.T) { // P2.3, P2.4, P2.9
	linear, orderly := 0, 0
	for _, s := range samples(3000, 5) {
		want := found{}
		for _, l := range lists(len(s.h)) {
			k := know(s, l)
			checkList(t, s, l, k)
			if k.order && k.time && k.allowed {
				if want.orders == 0 {
					want.order = l
				}
				want.orders++
			}
			want.orderly = want.orderly || k.order && k.threads && k.allowed
		}
		checkOrders(t, "a sample", s.specs, s.h, want)
		if want.orders > 0 {
			linear++
		} else if want.orderly {
			orderly++
		}
		if t.Failed() {
			t.Fatalf("with %v", s)
		}
	}
	if linear < 1000 || orderly < 100 {
		t.Errorf("the samples have %d that are linearisable, and %d that are only orderly", linear, orderly)
	}
}

func checkList(t *testing.T, s sample, l []int, k known) {
	var want api.Errno
	if !k.order {
		want = api.ErrArg
		k = known{}
	}
	time, threads, err := history.Keeps(s.h, l)
	if time != k.time || threads != k.threads || err != want {
		t.Errorf("Keeps(%v): %v, %v, %d", l, time, threads, err)
	}
	if is, err := history.Allows(s.specs, s.h, l); is != k.allowed || err != want {
		t.Errorf("Allows(%v): %v, %d", l, is, err)
	}
	if is, err := history.IsOrder(s.specs, s.h, l); is != (k.time && k.allowed) || err != api.OK {
		t.Errorf("IsOrder(%v): %v, %d", l, is, err)
	}
}

func TestOrdersOfMore(t *testing.T) { // P2.4, P2.9
	for _, s := range samples(3000, 8) {
		order, err := history.Order(s.specs, s.h)
		orders, _ := history.Orders(s.specs, s.h)
		linear, _ := history.Linear(s.specs, s.h)
		orderly, _ := history.Orderly(s.specs, s.h)
		alone, _ := history.Alone(s.h)
		is, _ := history.IsOrder(s.specs, s.h, order)
		if linear != (orders > 0) || linear != (err == api.OK) || linear != (err != api.ErrNone) || is != linear {
			t.Fatalf("%v: Order: %v, %d, Orders: %d, Linear: %v, IsOrder: %v", s, order, err, orders, linear, is)
		}
		if linear && !orderly {
			t.Fatalf("%v: linearisable, but not orderly", s)
		}
		open := slices.ContainsFunc(s.h, func(c api.Call) bool { return c.To == 0 })
		if alone && !open && orders > 1 {
			t.Fatalf("%v: alone, but Orders: %d", s, orders)
		}
	}
}

func TestObjectByObject(t *testing.T) { // P2.10, P3
	for _, s := range samples(4000, 8) {
		specs := s.specs
		linear, _ := history.Linear(specs, s.h)
		one, _ := history.Of(s.h, 0)
		other, _ := history.Of(s.h, 1)
		first, err := history.Linear(specs, one)
		second, e := history.Linear(specs, other)
		if linear != (first && second) || err != api.OK || e != api.OK || len(one)+len(other) != len(s.h) {
			t.Fatalf("%v: Linear: %v, of the objects: %v, %v", s, linear, first, second)
		}
	}
}

func TestBeginnings(t *testing.T) { // P2.5, P2.11
	for _, s := range samples(600, 8) {
		linear, _ := history.Linear(s.specs, s.h)
		for moment := range 101 {
			until, err := history.Until(s.h, moment)
			again, _ := history.Until(until, moment)
			if err != api.OK || !history.Valid(until) || !slices.Equal(again, until) {
				t.Fatalf("%v: Until(%d): %v, %d", s, moment, until, err)
			}
			if is, _ := history.Linear(s.specs, until); linear && !is {
				t.Fatalf("%v: Until(%d) is not linearisable", s, moment)
			}
		}
		if all, _ := history.Until(s.h, 100); !slices.Equal(all, s.h) {
			t.Fatalf("%v: Until(100): %v", s, all)
		}
	}
}

func TestLongerOfMany(t *testing.T) { // P2.8, P2.11
	d := dice(3)
	made := 0
	for _, s := range samples(1500, 8) {
		linear, _ := history.Linear(s.specs, s.h)
		for i, c := range s.h {
			from, to := c.From-d.below(4), c.To+d.below(4)
			want := slices.Clone(s.h)
			want[i].From, want[i].To = from, to
			l, err := history.Longer(s.h, i, from, to)
			if c.To == 0 || !history.Valid(want) {
				if err != api.ErrArg || len(l) != 0 {
					t.Fatalf("%v: Longer(%d, %d, %d): %v, %d", s, i, from, to, l, err)
				}
				continue
			}
			made++
			is, _ := history.Linear(s.specs, l)
			if err != api.OK || !slices.Equal(l, want) || linear && !is {
				t.Fatalf("%v: Longer(%d, %d, %d): %v, %d, linearisable: %v", s, i, from, to, l, err, is)
			}
		}
	}
	if made < 1000 {
		t.Errorf("only %d calls are longer", made)
	}
}

func TestPlayed(t *testing.T) { // P2.7, P2.12
	for _, s := range samples(1500, 8) {
		word := slices.Clone(s.h)
		var count []int
		for i := range word {
			word[i].Says, word[i].From, word[i].To = 0, 0, 0
			count = append(count, i)
		}
		h, err := history.Play(s.specs, word)
		if is, _ := history.For(s.specs, h); !is || err != api.OK || len(h) != len(word) {
			t.Fatalf("%v: Play: %v, %d", word, h, err)
		}
		checkOrders(t, "a played word", s.specs, h, found{count, 1, true})
		alone, _ := history.Alone(h)
		width, _ := history.Width(h)
		if !alone || width != min(1, len(h)) || t.Failed() {
			t.Fatalf("%v: Play: %v, Alone: %v, Width: %d", word, h, alone, width)
		}
	}
}

func TestWidthOfMany(t *testing.T) { // P2.6, P2.13
	for _, s := range samples(1500, 8) {
		want := 0
		for moment := range 101 {
			n := 0
			for _, c := range s.h {
				if c.From <= moment && (c.To == 0 || moment <= c.To) {
					n++
				}
			}
			want = max(want, n)
		}
		width, _ := history.Width(s.h)
		alone, _ := history.Alone(s.h)
		if width != want || alone != (want <= 1) {
			t.Fatalf("%v: Width: %d, not %d; Alone: %v", s, width, want, alone)
		}
	}
}
