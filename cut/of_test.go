package cut_test

import (
	"math"
	"testing"

	"pledge/api"
	"pledge/cut"
)

func asset(class, money, end int) api.Asset {
	return api.Asset{ID: 1, Class: class, Money: money, End: end}
}

func checkOf(t *testing.T, l *cut.Ladder, a api.Asset, today int, want int64) {
	t.Helper()
	if bp := l.Of(a, today); bp != want {
		t.Errorf("Of(%+v, %d) = %d, want %d", a, today, bp, want)
	}
}

// days are some todays, in the calendar and out of it.
func days() []int { return []int{math.MinInt, -1, 0, 1, 365, api.MaxDay, api.MaxDay + 1, math.MaxInt} }

// P12.1: the example; and nothing is cut, in whatever currency, as long as it is live.
func TestOfNothingSet(t *testing.T) {
	var l cut.Ladder
	for class := 1; class <= api.MaxClass; class++ {
		for money := 1; money <= api.MaxMoneys; money++ {
			for _, today := range days() {
				checkOf(t, &l, asset(class, money, 0), today, 0)
			}
		}
	}
	checkOf(t, &l, asset(2, 1, 9), 8, 0)
	checkOf(t, &l, asset(2, 1, 9), 9, api.MaxBP)
}

// P12.1: cash is of bucket 0, what has no end of the last one, on every day.
func TestOfNoEnd(t *testing.T) {
	l := full(t)
	for _, today := range days() {
		checkOf(t, l, asset(1, 1, 0), today, own(step(1, 0)))
		for class := 2; class <= api.MaxClass; class++ {
			checkOf(t, l, asset(class, 1, 0), today, own(step(class, api.MaxBucket-1)))
		}
	}
}

// P12.1: the bucket is that of the days that are left, at each one's edges, whatever day it is.
func TestOfEnd(t *testing.T) {
	l := full(t)
	for _, today := range []int{0, 1, 5, 1000, api.MaxDay - 3650} {
		for _, x := range []struct{ left, bucket int }{{1, 0}, {29, 0}, {30, 1}, {89, 1}, {90, 2}, {364, 2}, {365, 3}, {1094, 3}, {1095, 4}, {3649, 4}, {3650, 5}} {
			for class := 2; class <= api.MaxClass; class++ {
				checkOf(t, l, asset(class, 1, today+x.left), today, own(step(class, x.bucket)))
			}
		}
	}
	checkOf(t, l, asset(2, 1, api.MaxDay), 0, own(step(2, 5)))
	checkOf(t, l, asset(2, 1, api.MaxDay), api.MaxDay-1, own(step(2, 0)))
	checkOf(t, l, asset(2, 1, 1), -29, own(step(2, 1)))
	checkOf(t, l, asset(2, 1, api.MaxDay), math.MinInt, own(step(2, 5)))
}

// P12.1: all is cut of what has ended: from the day of its end on.
func TestOfEnded(t *testing.T) {
	for _, l := range []*cut.Ladder{full(t), {}} {
		for class := 2; class <= api.MaxClass; class++ {
			for _, end := range []int{1, 2, 500, api.MaxDay} {
				for _, today := range []int{end, end + 1, end + 4000, math.MaxInt} {
					checkOf(t, l, asset(class, 1, end), today, api.MaxBP)
					checkOf(t, l, asset(class, 2, end), today, api.MaxBP)
				}
			}
		}
	}
}

// P12.1: what is not in the base is cut by Fx more, cash too.
func TestOfFx(t *testing.T) {
	l := full(t)
	for _, fx := range []int64{300, 1, 0} {
		setFx(t, l, fx, nil)
		for money := 1; money <= api.MaxMoneys; money++ {
			more := fx
			if money == 1 {
				more = 0
			}
			checkOf(t, l, asset(1, money, 0), 5, own(step(1, 0))+more)
			checkOf(t, l, asset(2, money, 0), 5, own(step(2, 5))+more)
			checkOf(t, l, asset(6, money, 35), 5, own(step(6, 1))+more)
			checkOf(t, l, asset(6, money, 5), 5, api.MaxBP)
		}
	}
}

// P12.1: no more than all is cut.
func TestOfAtMost(t *testing.T) {
	for _, x := range []struct{ bp, fx, want int64 }{
		{9000, 999, 9999}, {9000, 1000, 10000}, {9000, 1001, 10000}, {api.MaxBP, 0, api.MaxBP}, {api.MaxBP, 1, api.MaxBP},
		{api.MaxBP, api.MaxBP, api.MaxBP}, {0, api.MaxBP, api.MaxBP}, {1, api.MaxBP, api.MaxBP}, {0, 7, 7},
	} {
		var l cut.Ladder
		set(t, &l, step(1, 0), x.bp, nil)
		set(t, &l, step(3, 5), x.bp, nil)
		setFx(t, &l, x.fx, nil)
		checkOf(t, &l, asset(1, 2, 0), 0, x.want)
		checkOf(t, &l, asset(3, 6, 0), 0, x.want)
		checkOf(t, &l, asset(3, 1, 0), 0, x.bp)
		checkGet(t, &l, step(3, 5), x.bp)
		checkFx(t, &l, x.fx)
	}
}

// P12.1: it goes by an asset's class, currency and end alone.
func TestOfOthersFields(t *testing.T) {
	l := full(t)
	for _, id := range []int{1, 2, api.MaxAsset} {
		for _, issuer := range []int{0, 1, api.MaxIssuer} {
			checkOf(t, l, api.Asset{ID: id, Issuer: issuer, Class: 4, Money: 1, End: 100}, 9, own(step(4, 2)))
		}
	}
}

// P12.1: of an asset that is not Valid it is 0, even if its end is past.
func TestOfWrong(t *testing.T) {
	l := full(t)
	setFx(t, l, 300, nil)
	good := api.Asset{ID: 1, Issuer: 1, Class: 2, Money: 2, End: 9}
	wrong := []api.Asset{{}, {ID: 1, Issuer: 1, Class: 1, Money: 1}, {ID: 1, Class: 1, Money: 1, End: 9}, {ID: 1, Class: 1, Money: 2, End: 100}}
	for _, n := range []int{math.MinInt, -1, math.MaxInt} {
		for i := range 5 {
			a := good
			*[]*int{&a.ID, &a.Issuer, &a.Class, &a.Money, &a.End}[i] = n
			wrong = append(wrong, a)
		}
	}
	for _, change := range []func(a *api.Asset){
		func(a *api.Asset) { a.ID = 0 }, func(a *api.Asset) { a.ID = api.MaxAsset + 1 },
		func(a *api.Asset) { a.Issuer = api.MaxIssuer + 1 }, func(a *api.Asset) { a.End = api.MaxDay + 1 },
		func(a *api.Asset) { a.Class = 0 }, func(a *api.Asset) { a.Class = api.MaxClass + 1 },
		func(a *api.Asset) { a.Money = 0 }, func(a *api.Asset) { a.Money = api.MaxMoneys + 1 },
	} {
		a := good
		change(&a)
		wrong = append(wrong, a)
	}
	for _, a := range wrong {
		for _, today := range append(days(), 8, 9, 10, 50000) {
			checkOf(t, l, a, today, 0)
		}
	}
	checkOf(t, l, good, 8, own(step(2, 0))+300)
}

// P0.2: Of sets nothing.
func TestOfChangesNothing(t *testing.T) {
	var l cut.Ladder
	set(t, &l, step(2, 5), 40, nil)
	for range 3 {
		checkOf(t, &l, asset(2, 1, 0), 0, 40)
		checkOf(t, &l, asset(3, 2, 10), 0, 0)
		checkOf(t, &l, asset(3, 2, 10), 10, api.MaxBP)
	}
	checkAll(t, &l, step(2, 5))
	checkFx(t, &l, 0)
}
