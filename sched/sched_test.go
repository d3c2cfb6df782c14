package sched_test

import (
	"math"
	"slices"
	"testing"

	"pledge/api"
	"pledge/sched"
)

func entry(day, class int, on bool) api.Entry { return api.Entry{Day: day, Class: class, On: on} }

// made is a schedule to which these were added, in that order.
func made(t *testing.T, list ...api.Entry) *sched.Schedule {
	t.Helper()
	s := &sched.Schedule{}
	for _, e := range list {
		add(t, s, e, nil)
	}
	return s
}

// full is a schedule with as many entries as there may be: class 1 from every other day on, on and off by turns.
func full(t *testing.T) *sched.Schedule {
	t.Helper()
	s := &sched.Schedule{}
	for i := range api.MaxEntries {
		add(t, s, entry(2*i, 1, i%2 == 0), nil)
	}
	return s
}

func add(t *testing.T, s *sched.Schedule, e api.Entry, want error) {
	t.Helper()
	if err := s.Add(e); err != want {
		t.Errorf("Add(%+v) = %v, want %v", e, err, want)
	}
}

func checkAll(t *testing.T, s *sched.Schedule, want ...api.Entry) {
	t.Helper()
	if got := s.All(); !slices.Equal(got, want) {
		t.Errorf("All() = %v, want %v", got, want)
	}
}

func checkOn(t *testing.T, s *sched.Schedule, class, today int, want bool) {
	t.Helper()
	if got := s.On(class, today); got != want {
		t.Errorf("On(%d, %d) = %v, want %v", class, today, got, want)
	}
}

func checkNext(t *testing.T, s *sched.Schedule, class, today, want int, is bool) {
	t.Helper()
	if day, ok := s.Next(class, today); day != want || ok != is {
		t.Errorf("Next(%d, %d) = %d, %v, want %d, %v", class, today, day, ok, want, is)
	}
}

// far are numbers that are neither a day nor a class; some would be one in fewer bits.
func far() []int {
	return []int{-1, -2, -1 << 32, 1<<16 + 1, 1<<32 + 1, math.MinInt, math.MinInt + 1, math.MaxInt - 1, math.MaxInt}
}

// wrong are entries that there may not be.
func wrong() []api.Entry {
	list := []api.Entry{{}, {On: true}, entry(api.MaxDay+1, 1, true), entry(5, 0, true), entry(5, api.MaxClass+1, true), entry(5, 256+1, false)}
	for _, n := range far() {
		list = append(list, entry(n, 1, true), entry(5, n, false), entry(n, n, true))
	}
	return list
}

// P11.1: each day with each class is one, and nothing outside of them.
func TestValid(t *testing.T) {
	for _, day := range []int{0, 1, 2, 255, 256, 1000, api.MaxDay - 1, api.MaxDay} {
		for class := 1; class <= api.MaxClass; class++ {
			for _, on := range []bool{false, true} {
				if err := sched.Valid(entry(day, class, on)); err != nil {
					t.Errorf("Valid(%d, %d, %v) = %v", day, class, on, err)
				}
			}
		}
	}
	for _, e := range wrong() {
		if err := sched.Valid(e); err != api.ErrRange {
			t.Errorf("Valid(%+v) = %v, want ErrRange", e, err)
		}
	}
}

// P11.1: what is not valid is not added, and leaves all as it was.
func TestAddOfWrong(t *testing.T) {
	s := made(t, entry(5, 1, true), entry(9, 2, true))
	empty := made(t)
	for _, e := range wrong() {
		add(t, s, e, api.ErrRange)
		add(t, empty, e, api.ErrRange)
	}
	checkAll(t, s, entry(5, 1, true), entry(9, 2, true))
	checkAll(t, empty)
}

// P11.1: the example, and a class that no entry is of.
func TestOnWithoutEntries(t *testing.T) {
	empty := made(t)
	other := made(t, entry(0, 2, true))
	for _, today := range append(far(), 0, 1, api.MaxDay) {
		for _, class := range append(far(), 0, 1, api.MaxClass, api.MaxClass+1) {
			checkOn(t, empty, class, today, false)
			checkNext(t, empty, class, today, 0, false)
			checkOn(t, other, class, today, false)
			checkNext(t, other, class, today, 0, false)
		}
	}
}

// P11.1: the last entry that is not behind today says it: from its own day on, for good if no other one comes.
func TestOn(t *testing.T) {
	s := made(t, entry(10, 1, true), entry(20, 1, false), entry(20, 2, true))
	for _, x := range []struct {
		class, today int
		want         bool
	}{
		{1, math.MinInt, false}, {1, -1, false}, {1, 0, false}, {1, 9, false}, {1, 10, true}, {1, 11, true}, {1, 19, true},
		{1, 20, false}, {1, 21, false}, {1, api.MaxDay, false}, {1, math.MaxInt, false},
		{2, 10, false}, {2, 19, false}, {2, 20, true}, {2, 21, true}, {2, api.MaxDay, true}, {2, api.MaxDay + 1, true},
		{2, math.MaxInt, true}, {2, math.MinInt, false},
	} {
		checkOn(t, s, x.class, x.today, x.want)
	}
}

// P11.1: the first day there may be, and the last one.
func TestEdgesOfDays(t *testing.T) {
	s := made(t, entry(api.MaxDay, api.MaxClass, false), entry(0, api.MaxClass, true))
	checkOn(t, s, api.MaxClass, -1, false)
	checkOn(t, s, api.MaxClass, 0, true)
	checkOn(t, s, api.MaxClass, api.MaxDay-1, true)
	checkOn(t, s, api.MaxClass, api.MaxDay, false)
	checkNext(t, s, api.MaxClass, math.MinInt, 0, true)
	checkNext(t, s, api.MaxClass, -1, 0, true)
	checkNext(t, s, api.MaxClass, 0, api.MaxDay, true)
	checkNext(t, s, api.MaxClass, api.MaxDay-1, api.MaxDay, true)
	checkNext(t, s, api.MaxClass, api.MaxDay, 0, false)
	checkNext(t, s, api.MaxClass, math.MaxInt, 0, false)
}

// P11.1: Next is a day behind today, and passes by entries that change nothing.
func TestNext(t *testing.T) {
	s := made(t, entry(5, 1, false), entry(10, 1, true), entry(15, 1, true), entry(20, 1, false), entry(25, 1, false), entry(30, 1, true), entry(12, 2, true), entry(40, 3, false))
	for _, x := range []struct {
		class, today, want int
		is                 bool
	}{
		{1, -9, 10, true}, {1, 0, 10, true}, {1, 5, 10, true}, {1, 9, 10, true}, {1, 10, 20, true}, {1, 14, 20, true}, {1, 15, 20, true},
		{1, 19, 20, true}, {1, 20, 30, true}, {1, 25, 30, true}, {1, 29, 30, true}, {1, 30, 0, false}, {1, 31, 0, false},
		{2, 11, 12, true}, {2, 12, 0, false}, {3, 0, 0, false}, {3, 40, 0, false},
	} {
		checkNext(t, s, x.class, x.today, x.want, x.is)
	}
}
