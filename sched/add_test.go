package sched_test

import (
	"slices"
	"testing"

	"pledge/api"
	"pledge/sched"
)

// P11.1: by day, then class, in whatever order they were added.
func TestAll(t *testing.T) {
	want := []api.Entry{entry(0, 3, true), entry(5, 1, false), entry(5, 2, true), entry(5, 6, true), entry(256, 1, true), entry(api.MaxDay, 1, false)}
	for turn := range len(want) {
		turned := append(slices.Clone(want[turn:]), want[:turn]...)
		checkAll(t, made(t, turned...), want...)
		slices.Reverse(turned)
		checkAll(t, made(t, turned...), want...)
	}
	checkAll(t, made(t))
}

// P11.1: of the same day and class there is one, the last that was added; the others stay.
func TestAddInPlace(t *testing.T) {
	s := made(t, entry(5, 1, true), entry(5, 2, true), entry(6, 1, true))
	add(t, s, entry(5, 1, false), nil)
	checkAll(t, s, entry(5, 1, false), entry(5, 2, true), entry(6, 1, true))
	checkOn(t, s, 1, 5, false)
	checkOn(t, s, 2, 5, true)
	checkNext(t, s, 1, 0, 6, true)
	add(t, s, entry(5, 1, false), nil)
	add(t, s, entry(5, 1, true), nil)
	checkAll(t, s, entry(5, 1, true), entry(5, 2, true), entry(6, 1, true))
	checkOn(t, s, 1, 5, true)
}

// P11.1: there are at most MaxEntries; those that are there may still be replaced, and what is wrong is told first.
func TestAddToFull(t *testing.T) {
	s := full(t)
	want := s.All()
	if len(want) != api.MaxEntries {
		t.Fatalf("%d entries, want %d", len(want), api.MaxEntries)
	}
	for _, e := range []api.Entry{entry(1, 1, true), entry(0, 2, true), entry(2*api.MaxEntries, 1, true), entry(api.MaxDay, api.MaxClass, false), entry(2*api.MaxEntries-2, 2, true)} {
		add(t, s, e, api.ErrMany)
	}
	for _, e := range wrong() {
		add(t, s, e, api.ErrRange)
	}
	checkAll(t, s, want...)
	for i, e := range want {
		want[i].On = !e.On
		add(t, s, want[i], nil)
		checkAll(t, s, want...)
		checkOn(t, s, 1, e.Day, want[i].On)
	}
	add(t, s, entry(1, 1, true), api.ErrMany)
}

// P11.1: one fewer than there may be leaves room for one, at every place.
func TestAddOfLast(t *testing.T) {
	for left := range api.MaxEntries {
		want := full(t).All()
		s := made(t, append(slices.Clone(want[:left]), want[left+1:]...)...)
		add(t, s, want[left], nil)
		checkAll(t, s, want...)
	}
}

// P11.1: a replaced one takes no room.
func TestAddInPlaceTakesNoRoom(t *testing.T) {
	s := made(t)
	for i := range 3 * api.MaxEntries {
		add(t, s, entry(7, 1, i%2 == 0), nil)
	}
	checkAll(t, s, entry(7, 1, false))
}

// plain is what a list of entries, in the order in which they were added, says of a class on a day.
func plain(list []api.Entry, class, today int) bool {
	best, on := -1, false
	for _, e := range list {
		if e.Class == class && e.Day <= today && e.Day >= best {
			best, on = e.Day, e.On
		}
	}
	return on
}

// P11.1: On and Next are what the words say, for many schedules, each day and each class.
func TestAsTheWordsSay(t *testing.T) {
	const days = 12
	step := uint32(1)
	for range 300 {
		var s sched.Schedule
		var list []api.Entry
		for range 14 {
			step = step*1664525 + 1013904223
			e := entry(int(step>>8%days), 1+int(step>>16%3), step>>24&1 == 1)
			list = append(list, e)
			add(t, &s, e, nil)
		}
		for class := range 5 {
			for today := -1; today <= days; today++ {
				checkOn(t, &s, class, today, plain(list, class, today))
				want, is := 0, false
				for day := today + 1; day <= days && !is; day++ {
					if plain(list, class, day) != plain(list, class, today) {
						want, is = day, true
					}
				}
				checkNext(t, &s, class, today, want, is)
			}
		}
	}
}

// P0.4: what All answers is new memory, its spare room too.
func TestAllIsNewMemory(t *testing.T) {
	s := made(t, entry(5, 1, true), entry(6, 2, true), entry(7, 3, true))
	first, second := s.All(), s.All()
	for i := range first[:cap(first)] {
		first[:cap(first)][i] = entry(99, 6, false)
	}
	_ = append(s.All()[:1], entry(98, 5, false))
	want := []api.Entry{entry(5, 1, true), entry(6, 2, true), entry(7, 3, true)}
	if !slices.Equal(second, want) {
		t.Errorf("another list shows %v", second)
	}
	checkAll(t, s, want...)
	add(t, s, entry(5, 1, false), nil)
	add(t, s, entry(4, 1, true), nil)
	if !slices.Equal(second, want) {
		t.Errorf("a list shows what was added behind it: %v", second)
	}
}

// P0.4: an answer of an empty schedule has no room that it shares.
func TestAllOfNothing(t *testing.T) {
	s := made(t)
	list := s.All()
	for i := range list[:cap(list)] {
		list[:cap(list)][i] = entry(9, 1, true)
	}
	_ = append(list, entry(8, 1, true))
	add(t, s, entry(5, 2, true), nil)
	checkAll(t, s, entry(5, 2, true))
}

// P0.5: schedules do not touch each other, and asking changes nothing.
func TestApart(t *testing.T) {
	a, b := made(t, entry(5, 1, true)), made(t, entry(5, 1, false))
	add(t, a, entry(6, 1, false), nil)
	for range 3 {
		checkOn(t, a, 1, 5, true)
		checkNext(t, a, 1, 5, 6, true)
		checkOn(t, b, 1, 5, false)
		checkNext(t, b, 1, 5, 0, false)
	}
	checkAll(t, a, entry(5, 1, true), entry(6, 1, false))
	checkAll(t, b, entry(5, 1, false))
}
