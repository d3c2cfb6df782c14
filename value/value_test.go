package value_test

import (
	"math"
	"math/big"
	"testing"

	"pledge/api"
	"pledge/value"
)

const par = 1000000 // the rate of the base

// bond is an asset that is no cash, and has all that an asset may have.
func bond() api.Asset { return api.Asset{ID: 5, Issuer: 3, Class: 2, Money: 2, End: 100} }

// cash is an asset that is cash.
func cash() api.Asset { return api.Asset{ID: 6, Class: 1, Money: 3} }

// good is terms on which both of them count; each step rounds.
func good() value.Terms {
	return value.Terms{Today: 99, Own: 4, On: true, Price: 9999, Rate: 1999999, Cut: 1}
}

// with is good terms, changed.
func with(change func(t *value.Terms)) value.Terms {
	t := good()
	change(&t)
	return t
}

func check(t *testing.T, a api.Asset, qty int64, y value.Terms, want value.Steps, wantErr error) {
	t.Helper()
	if got, err := value.Of(a, qty, y); got != want || err != wantErr {
		t.Errorf("Of(%+v, %d, %+v) = %+v, %v, want %+v, %v", a, qty, y, got, err, want, wantErr)
	}
}

// over is a times b over c, down, without bounds on the way; false, if that is above MaxMoney.
func over(a, b, c int64) (int64, bool) {
	p := new(big.Int).Mul(big.NewInt(a), big.NewInt(b))
	p.Div(p, big.NewInt(c))
	return p.Int64(), p.Cmp(big.NewInt(api.MaxMoney)) <= 0
}

func outside(n, most int64) bool { return n < 0 || n > most }

// told is what Of has to answer of cash, or of what is none, that counts, or not.
func told(isCash, counts bool, qty int64, y value.Terms) (value.Steps, error) {
	var s value.Steps
	ok := true
	if outside(qty, api.MaxQty) || !isCash && outside(y.Price, api.MaxPrice) {
		return value.Steps{}, api.ErrRange
	}
	s.Worth = qty
	if !isCash {
		if s.Worth, ok = over(qty, y.Price, 10000); !ok {
			return value.Steps{}, api.ErrOver
		}
	}
	if outside(y.Rate, api.MaxRate) {
		return value.Steps{}, api.ErrRange
	}
	if s.Base, ok = over(s.Worth, y.Rate, par); !ok {
		return value.Steps{}, api.ErrOver
	}
	if !counts {
		return s, nil
	}
	if outside(y.Cut, api.MaxBP) {
		return value.Steps{}, api.ErrRange
	}
	s.Value, _ = over(s.Base, 10000-y.Cut, 10000)
	return s, nil
}

// around are numbers within 0 to most and outside of it; some of these would be within it in fewer bits.
func around(most int64) []int64 {
	return []int64{math.MinInt64, math.MinInt64 + 1, -1 << 32, -most, -2, -1, 0, 1, 2, 5, 9999, most/3 + 1, most - 1, most,
		most + 1, most + 2, 2 * most, 1<<48 + 1, 1<<62 + 5, math.MaxInt64 - 1, math.MaxInt64}
}

// P15.1: one step stands on the one ahead of it, each cut down by itself.
func TestSteps(t *testing.T) {
	for _, x := range []struct {
		a    api.Asset
		qty  int64
		y    value.Terms
		want value.Steps
	}{
		{bond(), 5, good(), value.Steps{Worth: 4, Base: 7, Value: 6}},
		{cash(), 5, good(), value.Steps{Worth: 5, Base: 9, Value: 8}},
		{bond(), 0, good(), value.Steps{}},
		{cash(), 0, good(), value.Steps{}},
		{bond(), 1, good(), value.Steps{}},
		{cash(), 1, good(), value.Steps{Worth: 1, Base: 1, Value: 0}},
		{bond(), 30000, value.Terms{On: true, Price: 20000, Rate: 3 * par, Cut: 2500}, value.Steps{Worth: 60000, Base: 180000, Value: 135000}},
		{cash(), 30000, value.Terms{On: true, Price: 20000, Rate: 3 * par, Cut: 2500}, value.Steps{Worth: 30000, Base: 90000, Value: 67500}},
		{bond(), 10000, value.Terms{On: true, Price: 7, Rate: par}, value.Steps{Worth: 7, Base: 7, Value: 7}},
		{bond(), 10000, value.Terms{On: true, Price: 7, Rate: par, Cut: api.MaxBP}, value.Steps{Worth: 7, Base: 7}},
		{bond(), 10000, value.Terms{On: true, Price: 7, Rate: par, Cut: api.MaxBP - 1}, value.Steps{Worth: 7, Base: 7}},
		{bond(), 10000, value.Terms{On: true, Price: 7}, value.Steps{Worth: 7}},
		{bond(), 10000, value.Terms{On: true, Rate: par}, value.Steps{}},
	} {
		check(t, x.a, x.qty, x.y, x.want, nil)
	}
}

// P15.1: of what doesn't count just the Value is 0: the example. That it doesn't has many grounds.
func TestWhatDoesNotCount(t *testing.T) {
	grounds := []func(y *value.Terms){
		func(y *value.Terms) { y.On = false },
		func(y *value.Terms) { y.Today = 100 },
		func(y *value.Terms) { y.Today = api.MaxDay },
		func(y *value.Terms) { y.Own = 3 },
		func(y *value.Terms) { y.On, y.Today, y.Own = false, 101, 3 },
	}
	for _, ground := range grounds {
		y := with(ground)
		check(t, bond(), 5, y, value.Steps{Worth: 4, Base: 7}, nil)
		for _, bp := range around(api.MaxBP) { // its cut is not asked for
			y.Cut = bp
			check(t, bond(), 5, y, value.Steps{Worth: 4, Base: 7}, nil)
		}
		y.Rate = -1
		check(t, bond(), 5, y, value.Steps{}, api.ErrRange)
		y.Price, y.Rate = 10001, api.MaxRate
		check(t, bond(), api.MaxQty, y, value.Steps{}, api.ErrOver)
		y.Price = -1
		check(t, bond(), 5, y, value.Steps{}, api.ErrRange)
		y = with(ground)
		check(t, bond(), -1, y, value.Steps{}, api.ErrRange)
	}
	off := with(func(y *value.Terms) { y.On, y.Cut = false, -1 })
	check(t, cash(), 5, off, value.Steps{Worth: 5, Base: 9}, nil)
	check(t, cash(), api.MaxQty+1, off, value.Steps{}, api.ErrRange)
}

// P15.1: cash is worth itself, whatever its price; it is told by its class alone.
func TestCash(t *testing.T) {
	for _, price := range around(api.MaxPrice) {
		y := with(func(y *value.Terms) { y.Price = price })
		check(t, cash(), 5, y, value.Steps{Worth: 5, Base: 9, Value: 8}, nil)
		check(t, api.Asset{Class: 1, End: 98}, 5, y, value.Steps{Worth: 5, Base: 9}, nil)
		check(t, api.Asset{Class: 1, Issuer: 4}, 5, y, value.Steps{Worth: 5, Base: 9}, nil)
		check(t, api.Asset{ID: -1, Class: 1, Money: -1}, 5, y, value.Steps{Worth: 5, Base: 9, Value: 8}, nil)
	}
	for _, qty := range around(api.MaxQty) {
		var want error
		if qty < 0 || qty > api.MaxQty {
			want = api.ErrRange
		}
		for _, rate := range []int64{0, par} {
			got, err := value.Of(cash(), qty, value.Terms{On: true, Price: -1, Rate: rate})
			if err != want || err != nil && got != (value.Steps{}) || err == nil && got.Worth != qty {
				t.Errorf("of %d in cash: %+v, %v", qty, got, err)
			}
		}
	}
	for _, class := range []int{math.MinInt, -1, 0, 2, 3, 4, 5, 6, 7, 256 + 1, 1<<32 + 1, math.MaxInt} {
		a := api.Asset{ID: 6, Class: class, Money: 3}
		check(t, a, 5, good(), value.Steps{Worth: 4, Base: 7, Value: 6}, nil)
		check(t, a, 5, with(func(y *value.Terms) { y.Price = -1 }), value.Steps{}, api.ErrRange)
	}
}

// P15.1: what is just MaxMoney is not too much; beyond it the error has no steps beside it.
func TestOver(t *testing.T) {
	const top = api.MaxMoney
	for _, x := range []struct {
		a           api.Asset
		price, rate int64
		want        value.Steps
		err         error
	}{
		{bond(), 10000000, par, value.Steps{Worth: top, Base: top, Value: top}, nil},
		{bond(), 10000001, par, value.Steps{}, api.ErrOver},
		{bond(), 10000001, 0, value.Steps{}, api.ErrOver},
		{bond(), 10000000, par + 1, value.Steps{}, api.ErrOver},
		{bond(), 10000000, 0, value.Steps{Worth: top}, nil},
		{bond(), 10000, api.MaxRate, value.Steps{Worth: api.MaxQty, Base: top, Value: top}, nil},
		{bond(), 10001, api.MaxRate, value.Steps{}, api.ErrOver},
		{bond(), api.MaxPrice, api.MaxRate, value.Steps{}, api.ErrOver},
		{cash(), 0, api.MaxRate, value.Steps{Worth: api.MaxQty, Base: top, Value: top}, nil},
	} {
		y := with(func(y *value.Terms) { y.Price, y.Rate, y.Cut = x.price, x.rate, 0 })
		check(t, x.a, api.MaxQty, y, x.want, x.err)
		y.Cut = api.MaxBP // it is too much ahead of the cut
		x.want.Value = 0
		check(t, x.a, api.MaxQty, y, x.want, x.err)
	}
}

// P0.2: the first step's error is told, whatever is wrong with a later one; and what is 0 already is asked no less.
func TestFirstErrorFirst(t *testing.T) {
	for _, x := range []struct {
		qty, price, rate, cut int64
		err                   error
	}{
		{api.MaxQty, api.MaxPrice, -1, -1, api.ErrOver},
		{api.MaxQty, api.MaxPrice, api.MaxRate + 1, api.MaxBP + 1, api.ErrOver},
		{api.MaxQty, 10000000, api.MaxRate, -1, api.ErrOver},
		{api.MaxQty, 10000000, api.MaxRate, api.MaxBP + 1, api.ErrOver},
		{api.MaxQty, 10000000, -1, 0, api.ErrRange},
		{api.MaxQty + 1, api.MaxPrice, api.MaxRate, 0, api.ErrRange},
		{api.MaxQty, api.MaxPrice + 1, api.MaxRate, 0, api.ErrRange},
		{0, -1, 0, 0, api.ErrRange},
		{0, 0, -1, 0, api.ErrRange},
		{0, 0, api.MaxRate + 1, 0, api.ErrRange},
		{0, 0, 0, -1, api.ErrRange},
		{0, 0, 0, api.MaxBP + 1, api.ErrRange},
	} {
		y := with(func(y *value.Terms) { y.Price, y.Rate, y.Cut = x.price, x.rate, x.cut })
		check(t, bond(), x.qty, y, value.Steps{}, x.err)
	}
	check(t, cash(), 0, with(func(y *value.Terms) { y.Cut = -1 }), value.Steps{}, api.ErrRange)
	check(t, cash(), 0, with(func(y *value.Terms) { y.Rate = -1 }), value.Steps{}, api.ErrRange)
}

// P15.1: for all sorts of numbers, right and wrong, each step and each error is what the words say.
func TestAsTheWordsSay(t *testing.T) {
	for _, qty := range around(api.MaxQty) {
		for _, price := range append(around(api.MaxPrice), 10000, 10000000) {
			for _, rate := range append(around(api.MaxRate), par-1, par, par+1) {
				for _, bp := range around(api.MaxBP) {
					for _, on := range []bool{false, true} {
						y := with(func(y *value.Terms) { y.On, y.Price, y.Rate, y.Cut = on, price, rate, bp })
						want, err := told(false, on, qty, y)
						check(t, bond(), qty, y, want, err)
						want, err = told(true, on, qty, y)
						check(t, cash(), qty, y, want, err)
					}
				}
			}
		}
	}
}
