package value_test

import (
	"math"
	"testing"

	"pledge/api"
	"pledge/value"
)

// counts asks both calls: Counts, and Of, whose Value is 0 where it doesn't count.
func counts(t *testing.T, a api.Asset, y value.Terms, want bool) {
	t.Helper()
	if got := value.Counts(a, y); got != want {
		t.Errorf("Counts(%+v, %+v) = %v", a, y, got)
	}
	y.Price, y.Rate, y.Cut = 10000, par, 0
	steps := value.Steps{Worth: 5, Base: 5}
	if want {
		steps.Value = 5
	}
	check(t, a, 5, y, steps, nil)
}

// P15.1: what is its own issuer's doesn't count; Own 0, and Issuer 0, is nobody.
func TestCountsOfIssuers(t *testing.T) {
	numbers := []int{math.MinInt, -1 << 32, -3, -1, 256 + 3, 1<<16 + 3, 1 << 32, 1<<32 + 3, math.MaxInt}
	for n := range api.MaxIssuer + 2 {
		numbers = append(numbers, n)
	}
	for _, issuer := range numbers {
		for _, own := range numbers {
			a := bond()
			a.Issuer = issuer
			y := with(func(y *value.Terms) { y.Own = own })
			counts(t, a, y, own == 0 || issuer != own)
			y.On = false
			counts(t, a, y, false)
		}
	}
}

// P15.1: from its end on an asset doesn't count, whatever else it is.
func TestCountsOfDays(t *testing.T) {
	for _, x := range []struct {
		end, today int
		live       bool
	}{
		{100, 0, true}, {100, 98, true}, {100, 99, true}, {100, 100, false}, {100, 101, false}, {100, api.MaxDay, false},
		{1, 0, true}, {1, 1, false}, {api.MaxDay, api.MaxDay - 1, true}, {api.MaxDay, api.MaxDay, false},
		{0, 0, true}, {0, 1, true}, {0, api.MaxDay, true}, {0, -1, true}, {0, math.MaxInt, true}, {0, math.MinInt, true},
		{100, -1, true}, {100, math.MinInt, true}, {100, math.MaxInt, false}, {100, 1 << 32, false}, {math.MaxInt, math.MinInt, true},
		{-1, 0, false}, {-1, -2, true}, {math.MinInt, math.MaxInt, false},
	} {
		for class := 1; class <= api.MaxClass; class++ {
			for _, own := range []int{0, 2, 3} {
				a := api.Asset{ID: 7, Issuer: 3, Class: class, Money: 1, End: x.end}
				y := value.Terms{Today: x.today, Own: own, On: true}
				counts(t, a, y, x.live && own != 3)
				y.On = false
				counts(t, a, y, false)
			}
		}
	}
}

// P15.1: cash counts, of whoever it is, where it is eligible.
func TestCountsOfCash(t *testing.T) {
	for _, today := range []int{0, 1, 99, 100, api.MaxDay} {
		for own := range api.MaxIssuer + 1 {
			counts(t, cash(), value.Terms{Today: today, Own: own, On: true}, true)
			counts(t, cash(), value.Terms{Today: today, Own: own}, false)
		}
	}
}

// P15.1: whether it counts hangs neither on the price, the rate and the cut, right or wrong, nor on what else the asset is.
func TestCountsHangsOnNothingElse(t *testing.T) {
	for _, n := range []int64{math.MinInt64, -1, 0, 1, 3, 10000, 10001, api.MaxPrice, api.MaxPrice + 1, math.MaxInt64} {
		for _, a := range []api.Asset{bond(), cash(), {}, {ID: int(n), Class: int(n), Money: int(n)}} {
			for _, on := range []bool{false, true} {
				y := value.Terms{Today: 99, Own: 4, On: on, Price: n, Rate: n, Cut: n}
				if got := value.Counts(a, y); got != on {
					t.Errorf("Counts(%+v, %+v) = %v", a, y, got)
				}
			}
		}
	}
	if value.Counts(bond(), value.Terms{}) || value.Counts(api.Asset{}, value.Terms{}) {
		t.Error("without an entry nothing is eligible")
	}
}
