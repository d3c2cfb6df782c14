package asset_test

import (
	"math"
	"testing"

	"pledge/api"
	"pledge/asset"
)

// bond is an asset that is no cash, and has all that an asset may have.
func bond() api.Asset { return api.Asset{ID: 5, Issuer: 2, Class: 3, Money: 2, End: 100} }

// money is an asset that is cash.
func money() api.Asset { return api.Asset{ID: 6, Class: 1, Money: 3} }

// fields are an asset's numbers, each with the least and the greatest that it may be.
func fields() []field {
	return []field{
		{"ID", func(a *api.Asset) *int { return &a.ID }, 1, api.MaxAsset},
		{"Issuer", func(a *api.Asset) *int { return &a.Issuer }, 0, api.MaxIssuer},
		{"Class", func(a *api.Asset) *int { return &a.Class }, 1, api.MaxClass},
		{"Money", func(a *api.Asset) *int { return &a.Money }, 1, api.MaxMoneys},
		{"End", func(a *api.Asset) *int { return &a.End }, 0, api.MaxDay},
	}
}

type field struct {
	name      string
	of        func(a *api.Asset) *int
	low, high int
}

// outside are numbers that the field may not be; some would be within it in fewer bits.
func (f field) outside() []int {
	return []int{f.low - 1, f.low - 2, f.high + 1, f.high + 2, -f.high, -1 << 32, 1<<32 + f.low, 1<<16 + f.low, 256*f.high + f.high,
		math.MinInt, math.MinInt + 1, math.MaxInt - 1, math.MaxInt}
}

// with is the asset with another number there.
func (f field) with(a api.Asset, n int) api.Asset {
	*f.of(&a) = n
	return a
}

func checkValid(t *testing.T, a api.Asset, want error) {
	t.Helper()
	if err := asset.Valid(a); err != want {
		t.Errorf("Valid(%+v) = %v, want %v", a, err, want)
	}
}

// P10.1: each number at each place of its range, and outside of it.
func TestValid(t *testing.T) {
	checkValid(t, bond(), nil)
	checkValid(t, api.Asset{}, api.ErrRange)
	for _, f := range fields() {
		for n := f.low; n <= f.high; n++ {
			if f.name == "Class" && n == 1 {
				continue // cash: it may have no issuer and no end
			}
			checkValid(t, f.with(bond(), n), nil)
		}
		for _, n := range f.outside() {
			checkValid(t, f.with(bond(), n), api.ErrRange)
		}
	}
	checkValid(t, api.Asset{ID: 1, Class: 2, Money: 1}, nil)
	checkValid(t, api.Asset{ID: api.MaxAsset, Issuer: api.MaxIssuer, Class: api.MaxClass, Money: api.MaxMoneys, End: api.MaxDay}, nil)
}

// P10.1: cash has neither an issuer nor an end; of other classes one may have either.
func TestValidOfCash(t *testing.T) {
	for class := 1; class <= api.MaxClass; class++ {
		for _, issuer := range []int{0, 1, api.MaxIssuer} {
			for _, end := range []int{0, 1, api.MaxDay} {
				var want error
				if class == 1 && (issuer != 0 || end != 0) {
					want = api.ErrRange
				}
				checkValid(t, api.Asset{ID: 7, Issuer: issuer, Class: class, Money: 1, End: end}, want)
			}
		}
	}
	for _, f := range fields() {
		for _, n := range f.outside() {
			checkValid(t, f.with(money(), n), api.ErrRange)
		}
	}
	for id := 1; id <= api.MaxAsset; id++ {
		for m := 1; m <= api.MaxMoneys; m++ {
			checkValid(t, api.Asset{ID: id, Class: 1, Money: m}, nil)
		}
	}
}

// P10.1: an end that is today is none any more; the class is not asked.
func TestLive(t *testing.T) {
	for _, x := range []struct {
		end, today int
		want       bool
	}{
		{100, 0, true}, {100, 98, true}, {100, 99, true}, {100, 100, false}, {100, 101, false}, {100, api.MaxDay, false},
		{1, 0, true}, {1, 1, false}, {1, 2, false},
		{api.MaxDay, 0, true}, {api.MaxDay, api.MaxDay - 1, true}, {api.MaxDay, api.MaxDay, false}, {api.MaxDay, api.MaxDay + 1, false},
		{0, 0, true}, {0, 1, true}, {0, api.MaxDay, true}, {0, -1, true}, {0, math.MaxInt, true}, {0, math.MinInt, true},
		{100, -1, true}, {100, math.MinInt, true}, {100, math.MaxInt, false}, {math.MaxInt, -1, true}, {math.MaxInt, math.MinInt, true},
		{-1, 0, false}, {-1, -1, false}, {-1, -2, true}, {math.MinInt, math.MaxInt, false}, {math.MinInt, 0, false},
	} {
		for class := range api.MaxClass + 2 {
			a := api.Asset{ID: 3, Issuer: 1, Class: class, Money: 1, End: x.end}
			if got := asset.Live(a, x.today); got != x.want {
				t.Errorf("Live(%+v, %d) = %v", a, x.today, got)
			}
		}
	}
	if !asset.Live(api.Asset{Class: 2}, 0) {
		t.Error("an asset of class 2 without an end is live")
	}
}

// P10.1: it is the class alone that tells.
func TestCash(t *testing.T) {
	for _, class := range []int{math.MinInt, -1, 0, 1, 2, 3, 4, 5, 6, 7, 257, 1<<32 + 1, math.MaxInt} {
		for _, a := range []api.Asset{{}, bond(), money(), {ID: 1, Money: 1}, {ID: -1, Issuer: -1, Money: -1, End: -1}} {
			a.Class = class
			if got := asset.Cash(a); got != (class == 1) {
				t.Errorf("Cash(%+v) = %v", a, got)
			}
		}
	}
}
