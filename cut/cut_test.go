package cut_test

import (
	"math"
	"slices"
	"testing"

	"pledge/api"
	"pledge/cut"
)

func step(class, bucket int) cut.Step { return cut.Step{Class: class, Bucket: bucket} }

// steps are all that there are, by class, then bucket.
func steps() []cut.Step {
	var list []cut.Step
	for class := 1; class <= api.MaxClass; class++ {
		for bucket := range api.MaxBucket {
			list = append(list, step(class, bucket))
		}
	}
	return list
}

// own is a cut that no other step has.
func own(s cut.Step) int64 { return int64(1000 + 100*s.Class + s.Bucket) }

// full is a ladder with a cut of its own at each step.
func full(t *testing.T) *cut.Ladder {
	t.Helper()
	l := &cut.Ladder{}
	for _, s := range steps() {
		set(t, l, s, own(s), nil)
	}
	return l
}

func set(t *testing.T, l *cut.Ladder, s cut.Step, bp int64, want error) {
	t.Helper()
	if err := l.Set(s, bp); err != want {
		t.Errorf("Set(%v, %d) = %v, want %v", s, bp, err, want)
	}
}

func setFx(t *testing.T, l *cut.Ladder, bp int64, want error) {
	t.Helper()
	if err := l.SetFx(bp); err != want {
		t.Errorf("SetFx(%d) = %v, want %v", bp, err, want)
	}
}

func checkGet(t *testing.T, l *cut.Ladder, s cut.Step, want int64) {
	t.Helper()
	if bp := l.Get(s); bp != want {
		t.Errorf("Get(%v) = %d, want %d", s, bp, want)
	}
}

func checkFx(t *testing.T, l *cut.Ladder, want int64) {
	t.Helper()
	if bp := l.Fx(); bp != want {
		t.Errorf("Fx() = %d, want %d", bp, want)
	}
}

func checkAll(t *testing.T, l *cut.Ladder, want ...cut.Step) {
	t.Helper()
	if got := l.All(); !slices.Equal(got, want) {
		t.Errorf("All() = %v, want %v", got, want)
	}
}

// far are numbers that are neither a class nor a bucket; some would be one in fewer bits.
func far() []int {
	return []int{-1, -2, api.MaxClass + 1, 256 + 1, 1<<16 + 1, 1<<32 + 1, -1 << 32, math.MinInt, math.MinInt + 1, math.MaxInt - 1, math.MaxInt}
}

// wrongSteps are steps that there are not.
func wrongSteps() []cut.Step {
	list := []cut.Step{{}, step(0, 1), step(api.MaxClass+1, 0), step(1, api.MaxBucket), step(api.MaxClass, api.MaxBucket), step(2, -1)}
	for _, n := range far() {
		list = append(list, step(n, 0), step(1, n), step(n, n))
	}
	return list
}

// wrongCuts are numbers that are no cut; some would be one in fewer bits.
func wrongCuts() []int64 {
	return []int64{-1, api.MaxBP + 1, 1<<16 + 1, 1<<32 + 1, -1 << 32, math.MinInt64, math.MinInt64 + 1, math.MaxInt64}
}

// P12.1: where nothing was set all is 0.
func TestNothingSet(t *testing.T) {
	var l cut.Ladder
	for _, s := range append(steps(), wrongSteps()...) {
		checkGet(t, &l, s, 0)
	}
	checkFx(t, &l, 0)
	checkAll(t, &l)
}

// P12.1: each step has a cut of its own, and no other step is touched.
func TestSet(t *testing.T) {
	for _, s := range steps() {
		var l cut.Ladder
		set(t, &l, s, 700, nil)
		checkAll(t, &l, s)
		for _, other := range steps() {
			if other == s {
				checkGet(t, &l, other, 700)
			} else {
				checkGet(t, &l, other, 0)
			}
		}
		checkFx(t, &l, 0)
	}
	l := full(t)
	for _, s := range steps() {
		checkGet(t, l, s, own(s))
	}
	for _, s := range wrongSteps() {
		checkGet(t, l, s, 0)
	}
}

// P12.1: a cut is 0 to MaxBP; the last one that was set stands.
func TestSetAgain(t *testing.T) {
	var l cut.Ladder
	s := step(3, 4)
	for _, bp := range []int64{1, api.MaxBP, 0, api.MaxBP - 1, 255, 256} {
		set(t, &l, s, bp, nil)
		checkGet(t, &l, s, bp)
		checkAll(t, &l, s)
	}
}

// P12.1: what is out of its range is not set, and leaves all as it was.
func TestSetOfWrong(t *testing.T) {
	l, empty := full(t), &cut.Ladder{}
	for _, s := range wrongSteps() {
		for _, bp := range append(wrongCuts(), 0, 5, api.MaxBP) {
			set(t, l, s, bp, api.ErrRange)
			set(t, empty, s, bp, api.ErrRange)
		}
		checkGet(t, l, s, 0)
		checkGet(t, empty, s, 0)
	}
	for _, s := range steps() {
		for _, bp := range wrongCuts() {
			set(t, l, s, bp, api.ErrRange)
			set(t, empty, s, bp, api.ErrRange)
		}
		checkGet(t, l, s, own(s))
		checkGet(t, empty, s, 0)
	}
	checkAll(t, l, steps()...)
	checkAll(t, empty)
	checkFx(t, l, 0)
	checkFx(t, empty, 0)
}

// P12.1: the cut of what is not in the base is 0 to MaxBP, and apart from the steps.
func TestSetFx(t *testing.T) {
	l, empty := full(t), &cut.Ladder{}
	for _, bp := range []int64{1, api.MaxBP, 0, api.MaxBP - 1, 255, 256} {
		for _, one := range []*cut.Ladder{l, empty} {
			setFx(t, one, bp, nil)
			checkFx(t, one, bp)
			for _, wrong := range wrongCuts() {
				setFx(t, one, wrong, api.ErrRange)
				checkFx(t, one, bp)
			}
		}
	}
	checkAll(t, l, steps()...)
	checkAll(t, empty)
	for _, s := range steps() {
		checkGet(t, l, s, own(s))
		checkGet(t, empty, s, 0)
	}
	set(t, l, step(2, 2), 9, nil)
	checkFx(t, l, 256)
}

// P12.1: All is by class, then bucket, in whatever order they were set; one that was set to 0 is among them.
func TestAll(t *testing.T) {
	want := []cut.Step{step(1, 0), step(1, 5), step(2, 0), step(2, 1), step(4, 3), step(6, 0), step(6, 5)}
	for turn := range want {
		turned := append(slices.Clone(want[turn:]), want[:turn]...)
		for range 2 {
			var l cut.Ladder
			for i, s := range turned {
				set(t, &l, s, int64(i), nil)
			}
			checkAll(t, &l, want...)
			set(t, &l, turned[1], 0, nil)
			checkAll(t, &l, want...)
			slices.Reverse(turned)
		}
	}
	checkAll(t, full(t), steps()...)
}

// P0.4: what All answers is new memory, its spare room too.
func TestAllIsNewMemory(t *testing.T) {
	var l cut.Ladder
	want := []cut.Step{step(1, 1), step(2, 2), step(3, 3)}
	for _, s := range want {
		set(t, &l, s, own(s), nil)
	}
	first, second := l.All(), l.All()
	for i := range first[:cap(first)] {
		first[:cap(first)][i] = step(6, 5)
	}
	_ = append(l.All()[:1], step(5, 5))
	if !slices.Equal(second, want) {
		t.Errorf("another list shows %v", second)
	}
	checkAll(t, &l, want...)
	set(t, &l, step(1, 0), 5, nil)
	if !slices.Equal(second, want) {
		t.Errorf("a list shows what was set behind it: %v", second)
	}
}

// P0.5: ladders do not touch each other, and asking changes nothing.
func TestApart(t *testing.T) {
	var a, b cut.Ladder
	set(t, &a, step(2, 1), 50, nil)
	set(t, &b, step(2, 1), 60, nil)
	set(t, &b, step(3, 1), 70, nil)
	setFx(t, &a, 80, nil)
	for range 3 {
		checkGet(t, &a, step(2, 1), 50)
		checkGet(t, &a, step(3, 1), 0)
		checkGet(t, &b, step(2, 1), 60)
		checkFx(t, &a, 80)
		checkFx(t, &b, 0)
		checkAll(t, &a, step(2, 1))
		checkAll(t, &b, step(2, 1), step(3, 1))
	}
}
