package fx_test

import (
	"math"
	"slices"
	"testing"

	"pledge/api"
	"pledge/fx"
)

// par is the rate of the base.
const par = 1000000

func set(t *testing.T, r *fx.Rates, money int, rate int64, want error) {
	t.Helper()
	if err := r.Set(money, rate); err != want {
		t.Errorf("Set(%d, %d) = %v, want %v", money, rate, err, want)
	}
}

func checkGet(t *testing.T, r *fx.Rates, money int, want int64, wantOK bool) {
	t.Helper()
	if rate, ok := r.Get(money); rate != want || ok != wantOK {
		t.Errorf("Get(%d) = %d, %v, want %d, %v", money, rate, ok, want, wantOK)
	}
}

func checkBase(t *testing.T, r *fx.Rates, v int64, money int, want int64, wantErr error) {
	t.Helper()
	if n, err := r.Base(v, money); n != want || err != wantErr {
		t.Errorf("Base(%d, %d) = %d, %v, want %d, %v", v, money, n, err, want, wantErr)
	}
}

func checkAll(t *testing.T, r *fx.Rates, want ...int) {
	t.Helper()
	if got := r.All(); !slices.Equal(got, want) {
		t.Errorf("All() = %v, want %v", got, want)
	}
}

// foreign are the currencies that may be set, rising.
func foreign() []int {
	var list []int
	for money := 2; money <= api.MaxMoneys; money++ {
		list = append(list, money)
	}
	return list
}

// own is a rate that no other currency has.
func own(money int) int64 { return int64(100000*money + 7) }

// full is rates with one of its own for each currency.
func full(t *testing.T) *fx.Rates {
	t.Helper()
	r := &fx.Rates{}
	for _, money := range foreign() {
		set(t, r, money, own(money), nil)
	}
	return r
}

// wrongMoneys are numbers that are no currency; some would be one in fewer bits.
func wrongMoneys() []int {
	return []int{0, -1, -2, api.MaxMoneys + 1, api.MaxMoneys + 2, 256 + 2, 1<<16 + 2, 1<<32 + 1, 1<<32 + 2, 2 - 1<<32, math.MinInt, math.MinInt + 1, math.MinInt + 2, math.MaxInt - 1, math.MaxInt}
}

// wrongRates are numbers that are no rate; some would be one in fewer bits.
func wrongRates() []int64 {
	return []int64{0, -1, -2, -par, api.MaxRate + 1, api.MaxRate + 2, 1<<32 + 1, 1 - 1<<32, math.MinInt64, math.MinInt64 + 1, math.MaxInt64 - 1, math.MaxInt64}
}

// wrongAmounts are numbers that money.Base takes none of.
func wrongAmounts() []int64 {
	return []int64{-1, -2, -api.MaxMoney, api.MaxMoney + 1, math.MinInt64, math.MaxInt64}
}

// P13.1: where nothing was set the base alone has a rate.
func TestNothingSet(t *testing.T) {
	var r fx.Rates
	checkGet(t, &r, 1, par, true)
	checkAll(t, &r, 1)
	for _, money := range append(foreign(), wrongMoneys()...) {
		checkGet(t, &r, money, 0, false)
		checkBase(t, &r, 5, money, 0, api.ErrNone)
	}
}

// P13.1: each currency has a rate of its own, and no other one is touched.
func TestSet(t *testing.T) {
	for _, money := range foreign() {
		var r fx.Rates
		set(t, &r, money, 2500000, nil)
		checkAll(t, &r, 1, money)
		checkGet(t, &r, 1, par, true)
		for _, other := range foreign() {
			if other == money {
				checkGet(t, &r, other, 2500000, true)
				checkBase(t, &r, 5, other, 12, nil)
			} else {
				checkGet(t, &r, other, 0, false)
				checkBase(t, &r, 5, other, 0, api.ErrNone)
			}
		}
	}
	r := full(t)
	for _, money := range foreign() {
		checkGet(t, r, money, own(money), true)
	}
	for _, money := range wrongMoneys() {
		checkGet(t, r, money, 0, false)
		checkBase(t, r, 5, money, 0, api.ErrNone)
	}
	checkGet(t, r, 1, par, true)
}

// P13.1: a rate is 1 to MaxRate; the last one that was set stands.
func TestSetAgain(t *testing.T) {
	var r fx.Rates
	for _, money := range foreign() {
		for _, rate := range []int64{1, api.MaxRate, 2, par, api.MaxRate - 1, 256, 1} {
			set(t, &r, money, rate, nil)
			checkGet(t, &r, money, rate, true)
			checkBase(t, &r, par, money, rate, nil)
		}
	}
	checkAll(t, &r, 1, 2, 3, 4, 5, 6)
}

// P13.1: what is out of its range is not set, the base neither, and leaves all as it was.
func TestSetOfWrong(t *testing.T) {
	r, empty := full(t), &fx.Rates{}
	for _, one := range []*fx.Rates{r, empty} {
		for _, money := range append(wrongMoneys(), 1) {
			for _, rate := range append(wrongRates(), 1, 5, par, api.MaxRate) {
				set(t, one, money, rate, api.ErrRange)
			}
		}
		for _, money := range foreign() {
			for _, rate := range wrongRates() {
				set(t, one, money, rate, api.ErrRange)
			}
		}
		for _, money := range wrongMoneys() {
			checkGet(t, one, money, 0, false)
		}
		checkGet(t, one, 1, par, true)
		checkBase(t, one, 5, 1, 5, nil)
	}
	for _, money := range foreign() {
		checkGet(t, r, money, own(money), true)
		checkGet(t, empty, money, 0, false)
	}
	checkAll(t, r, 1, 2, 3, 4, 5, 6)
	checkAll(t, empty, 1)
}

// P13.1: the example; an amount of the base is itself, whatever is set.
func TestBaseOfTheBase(t *testing.T) {
	for _, r := range []*fx.Rates{full(t), {}} {
		for _, v := range []int64{0, 1, 5, par, api.MaxMoney - 1, api.MaxMoney} {
			checkBase(t, r, v, 1, v, nil)
		}
		for _, v := range wrongAmounts() {
			checkBase(t, r, v, 1, 0, api.ErrRange)
		}
	}
}

// P13.1: at its rate, over a million, down.
func TestBase(t *testing.T) {
	for _, x := range []struct {
		v, rate, want int64
		err           error
	}{
		{5, 500000, 2, nil},
		{4, 500000, 2, nil},
		{1, 999999, 0, nil},
		{1, par, 1, nil},
		{5, 2500000, 12, nil},
		{0, api.MaxRate, 0, nil},
		{1, api.MaxRate, 1000, nil},
		{999999, 1, 0, nil},
		{par, 1, 1, nil},
		{api.MaxMoney, 1, 1000000000, nil},
		{api.MaxMoney, par, api.MaxMoney, nil},
		{666666666666667, 1500000, api.MaxMoney, nil}, // and a half, which is cut off first
		{1000000000000, api.MaxRate, api.MaxMoney, nil},
		{1000000000001, api.MaxRate, 0, api.ErrOver},
		{api.MaxMoney, par + 1, 0, api.ErrOver},
		{142857142857143, 7000000, 0, api.ErrOver}, // just 1 above
		{api.MaxMoney, api.MaxRate, 0, api.ErrOver},
		{-1, 500000, 0, api.ErrRange},
		{api.MaxMoney + 1, 1, 0, api.ErrRange},
		{api.MaxMoney + 1, api.MaxRate, 0, api.ErrRange}, // ahead of ErrOver
	} {
		for _, money := range foreign() {
			var r fx.Rates
			set(t, &r, money, x.rate, nil)
			checkBase(t, &r, x.v, money, x.want, x.err)
		}
	}
}

// P13.1, P0.2: that there is no rate is told ahead of a wrong amount.
func TestBaseOfWrong(t *testing.T) {
	r, empty := full(t), &fx.Rates{}
	for _, v := range append(wrongAmounts(), 0, 1, api.MaxMoney) {
		for _, money := range wrongMoneys() {
			checkBase(t, r, v, money, 0, api.ErrNone)
			checkBase(t, empty, v, money, 0, api.ErrNone)
		}
		for _, money := range foreign() {
			checkBase(t, empty, v, money, 0, api.ErrNone)
		}
	}
	for _, v := range wrongAmounts() {
		for _, money := range foreign() {
			checkBase(t, r, v, money, 0, api.ErrRange)
		}
	}
}

// P13.1: All is rising, in whatever order they were set, and the base is in it once.
func TestAll(t *testing.T) {
	for chosen := range 1 << len(foreign()) {
		want := []int{1}
		for i, money := range foreign() {
			if chosen>>i&1 == 1 {
				want = append(want, money)
			}
		}
		for turn := 1; turn <= len(want); turn++ {
			turned := append(slices.Clone(want[turn:]), want[1:turn]...)
			for range 2 {
				var r fx.Rates
				for i, money := range turned {
					set(t, &r, money, int64(i+1), nil)
				}
				checkAll(t, &r, want...)
				slices.Reverse(turned)
			}
		}
	}
}

// P0.4: what All answers is new memory, its spare room too.
func TestAllIsNewMemory(t *testing.T) {
	var r fx.Rates
	set(t, &r, 2, 5, nil)
	set(t, &r, 4, 6, nil)
	want := []int{1, 2, 4}
	first, second := r.All(), r.All()
	for i := range first[:cap(first)] {
		first[:cap(first)][i] = 9
	}
	_ = append(r.All()[:1], 6)
	if !slices.Equal(second, want) {
		t.Errorf("another list shows %v", second)
	}
	checkAll(t, &r, want...)
	set(t, &r, 3, 5, nil)
	if !slices.Equal(second, want) {
		t.Errorf("a list shows what was set behind it: %v", second)
	}
	checkAll(t, &r, 1, 2, 3, 4)
}

// P0.5: rates do not touch each other, and asking changes nothing.
func TestApart(t *testing.T) {
	var a, b fx.Rates
	set(t, &a, 2, 500000, nil)
	set(t, &b, 2, 1500000, nil)
	set(t, &b, 3, 7, nil)
	for range 3 {
		checkGet(t, &a, 2, 500000, true)
		checkGet(t, &a, 3, 0, false)
		checkBase(t, &a, 5, 2, 2, nil)
		checkBase(t, &a, 5, 3, 0, api.ErrNone)
		checkAll(t, &a, 1, 2)
		checkGet(t, &b, 2, 1500000, true)
		checkBase(t, &b, 5, 2, 7, nil)
		checkAll(t, &b, 1, 2, 3)
	}
}
