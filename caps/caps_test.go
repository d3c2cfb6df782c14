package caps_test

import (
	"math"
	"math/rand"
	"slices"
	"testing"

	"pledge/api"
	"pledge/caps"
)

const top = api.MaxMoney

func class(id int) caps.Limit    { return caps.Limit{What: caps.Class, ID: id} }
func currency(id int) caps.Limit { return caps.Limit{What: caps.Money, ID: id} }
func issuer(id int) caps.Limit   { return caps.Limit{What: caps.Issuer, ID: id} }

func line(class, money, issuer int, v int64) caps.Line {
	return caps.Line{Class: class, Money: money, Issuer: issuer, Value: v}
}

func set(t *testing.T, c *caps.Caps, l caps.Limit, amount int64, want error) {
	t.Helper()
	if err := c.Set(l, amount); err != want {
		t.Errorf("Set(%v, %d) = %v, want %v", l, amount, err, want)
	}
}

func checkGet(t *testing.T, c *caps.Caps, l caps.Limit, want int64) {
	t.Helper()
	if got := c.Get(l); got != want {
		t.Errorf("Get(%v) = %d, want %d", l, got, want)
	}
}

func checkAll(t *testing.T, c *caps.Caps, want ...caps.Limit) {
	t.Helper()
	if got := c.All(); !slices.Equal(got, want) {
		t.Errorf("All() = %v, want %v", got, want)
	}
}

func checkSum(t *testing.T, c *caps.Caps, want int64, l ...caps.Line) {
	t.Helper()
	if got, err := c.Sum(l...); got != want || err != nil {
		t.Errorf("Sum(%v) = %d, %v, want %d", l[:min(9, len(l))], got, err, want)
	}
}

func checkOver(t *testing.T, c *caps.Caps, l ...caps.Line) {
	t.Helper()
	if got, err := c.Sum(l...); got != 0 || err != api.ErrOver {
		t.Errorf("Sum of %d lines = %d, %v, want 0, %v", len(l), got, err, api.ErrOver)
	}
}

// checkRange is that Sum tells ErrRange around that place.
func checkRange(t *testing.T, c *caps.Caps, pos int, l ...caps.Line) {
	t.Helper()
	got, err := c.Sum(l...)
	at, ok := err.(*api.At)
	if got != 0 || !ok || *at != (api.At{Pos: pos, Err: api.ErrRange}) {
		t.Errorf("Sum(%v) = %d, %v, want 0, %v at %d", l, got, err, api.ErrRange, pos)
	}
}

// ids are the greatest IDs, by What.
func ids() [4]int { return [4]int{0, api.MaxClass, api.MaxMoneys, api.MaxIssuer} }

// all is every limit that there may be, by What, then ID.
func all() []caps.Limit {
	var l []caps.Limit
	for what, most := range ids() {
		for id := 1; id <= most; id++ {
			l = append(l, caps.Limit{What: what, ID: id})
		}
	}
	return l
}

// P16.1: each limit that there may be is one of its own.
func TestEachLimit(t *testing.T) {
	var c caps.Caps
	checkAll(t, &c)
	for _, l := range all() {
		checkGet(t, &c, l, 0)
	}
	for i, l := range all() {
		set(t, &c, l, int64(1000+i), nil)
		checkAll(t, &c, all()[:i+1]...)
	}
	for i, l := range all() {
		checkGet(t, &c, l, int64(1000+i))
	}
	for i, l := range all() {
		set(t, &c, l, 0, nil)
		checkGet(t, &c, l, 0)
		checkAll(t, &c, all()[i+1:]...)
	}
}

// P16.1: what was set last holds, up to MaxMoney; 0 takes it away, also where there is none.
func TestSetAgain(t *testing.T) {
	var c caps.Caps
	for _, l := range []caps.Limit{class(6), currency(1), issuer(32)} {
		set(t, &c, l, 0, nil)
		checkAll(t, &c)
		for _, amount := range []int64{5, 1, top, top - 1, 5, 5} {
			set(t, &c, l, amount, nil)
			checkGet(t, &c, l, amount)
			checkAll(t, &c, l)
		}
		set(t, &c, l, 0, nil)
		checkGet(t, &c, l, 0)
		checkAll(t, &c)
		set(t, &c, l, 0, nil)
		checkAll(t, &c)
		set(t, &c, l, 2, nil)
		checkGet(t, &c, l, 2)
		set(t, &c, l, 0, nil)
	}
}

// P16.1: All is by What, then ID, in whatever order they were set.
func TestAllInOrder(t *testing.T) {
	var c caps.Caps
	for _, l := range []caps.Limit{issuer(32), class(6), issuer(1), currency(6), issuer(9), class(1), currency(1), issuer(10)} {
		set(t, &c, l, 1, nil)
	}
	checkAll(t, &c, class(1), class(6), currency(1), currency(6), issuer(1), issuer(9), issuer(10), issuer(32))
}

// P16.1: a wrong What, ID or amount is ErrRange, and changes nothing.
func TestWrongLimits(t *testing.T) {
	var empty, c caps.Caps
	for _, l := range all() {
		set(t, &c, l, 9, nil)
	}
	wrong := func(l caps.Limit, amount int64) {
		t.Helper()
		for _, x := range []*caps.Caps{&empty, &c} {
			was := x.Get(l)
			set(t, x, l, amount, api.ErrRange)
			checkGet(t, x, l, was)
		}
	}
	for _, what := range []int{math.MinInt, -1, 0, 4, 5, 256 + 1, 1<<32 + 2, math.MaxInt} {
		for _, id := range []int{-1, 0, 1, 6, 32} {
			for _, amount := range []int64{0, 7, -1} {
				wrong(caps.Limit{What: what, ID: id}, amount)
			}
			checkGet(t, &c, caps.Limit{What: what, ID: id}, 0)
		}
	}
	for what, most := range ids() {
		for _, id := range []int{math.MinInt, -1, 0, most + 1, 33, 256 + 1, 1<<32 + 1, math.MaxInt} {
			for _, amount := range []int64{0, 7, top, -1} {
				wrong(caps.Limit{What: what, ID: id}, amount)
			}
			checkGet(t, &c, caps.Limit{What: what, ID: id}, 0)
		}
	}
	for _, l := range all() {
		for _, amount := range []int64{math.MinInt64, -top, -1, top + 1, 1<<53 + 1, math.MaxInt64} {
			wrong(l, amount)
		}
	}
	checkAll(t, &empty)
	checkAll(t, &c, all()...)
	for _, l := range all() {
		checkGet(t, &c, l, 9)
	}
}

// P16.2: the example, and lines without limits.
func TestSum(t *testing.T) {
	var c caps.Caps
	checkSum(t, &c, 0)
	checkSum(t, &c, 0, line(1, 1, 0, 0))
	checkSum(t, &c, 10, line(1, 1, 2, 5), line(1, 1, 2, 5))
	checkSum(t, &c, 15, line(1, 1, 0, 1), line(6, 6, 32, 2), line(3, 4, 5, 4), line(1, 1, 0, 8))
	set(t, &c, issuer(2), 7, nil)
	checkSum(t, &c, 7, line(1, 1, 2, 5), line(1, 1, 2, 5))
	checkSum(t, &c, 6, line(1, 1, 2, 5), line(1, 1, 2, 1))
	checkSum(t, &c, 7, line(1, 1, 2, 5), line(1, 1, 2, 2))
	checkSum(t, &c, 7, line(1, 1, 2, 5), line(1, 1, 2, 3))
	checkSum(t, &c, 0)
	set(t, &c, issuer(2), 0, nil)
	checkSum(t, &c, 10, line(1, 1, 2, 5), line(1, 1, 2, 5))
}

// P16.2: an issuer's limit holds in each class and currency by itself, and not for nobody's.
func TestIssuers(t *testing.T) {
	var c caps.Caps
	for id := 1; id <= api.MaxIssuer; id++ {
		set(t, &c, issuer(id), int64(10+id), nil)
		checkSum(t, &c, int64(10+id), line(1, 1, id, 9), line(1, 1, id, 40), line(1, 1, id, 2))
	}
	checkSum(t, &c, 22, line(1, 1, 1, 50), line(2, 1, 1, 50))
	checkSum(t, &c, 22, line(1, 1, 1, 50), line(1, 2, 1, 50))
	checkSum(t, &c, 33, line(1, 1, 1, 50), line(1, 2, 1, 30), line(2, 2, 1, 50), line(1, 2, 1, 30))
	checkSum(t, &c, 23, line(1, 1, 1, 50), line(1, 1, 2, 50))
	checkSum(t, &c, 104, line(1, 1, 0, 50), line(1, 1, 0, 50), line(1, 1, 2, 4))
}

// P16.2: a currency's limit holds in each class by itself, behind the issuers' limits.
func TestCurrencies(t *testing.T) {
	var c caps.Caps
	for id := 1; id <= api.MaxMoneys; id++ {
		set(t, &c, currency(id), int64(20+id), nil)
		checkSum(t, &c, int64(20+id), line(1, id, 0, 15), line(1, id, 3, 15))
		checkSum(t, &c, int64(20+id), line(1, id, 0, int64(19+id)), line(1, id, 3, 1))
		checkSum(t, &c, int64(19+id), line(1, id, 0, int64(18+id)), line(1, id, 3, 1))
	}
	checkSum(t, &c, 42, line(1, 1, 0, 50), line(2, 1, 0, 50))
	checkSum(t, &c, 43, line(1, 1, 0, 50), line(1, 2, 0, 50))
	set(t, &c, issuer(3), 5, nil)
	checkSum(t, &c, 15, line(1, 1, 3, 50), line(1, 1, 0, 10))
	checkSum(t, &c, 21, line(1, 1, 3, 50), line(1, 1, 0, 17))
	set(t, &c, issuer(3), 30, nil)
	checkSum(t, &c, 21, line(1, 1, 3, 50))
}

// P16.2: a class's limit holds behind the issuers' and the currencies' limits.
func TestClasses(t *testing.T) {
	var c caps.Caps
	for id := 1; id <= api.MaxClass; id++ {
		set(t, &c, class(id), int64(30+id), nil)
		checkSum(t, &c, int64(30+id), line(id, 1, 0, 20), line(id, 2, 3, 20))
		checkSum(t, &c, int64(30+id), line(id, 1, 0, int64(29+id)), line(id, 2, 3, 1))
		checkSum(t, &c, int64(29+id), line(id, 1, 0, int64(28+id)), line(id, 2, 3, 1))
	}
	checkSum(t, &c, 63, line(1, 1, 0, 50), line(2, 1, 0, 50))
	set(t, &c, currency(2), 9, nil)
	checkSum(t, &c, 29, line(1, 1, 0, 20), line(1, 2, 0, 20))
	checkSum(t, &c, 31, line(1, 1, 0, 23), line(1, 2, 0, 20))
	set(t, &c, issuer(4), 2, nil)
	checkSum(t, &c, 22, line(1, 1, 0, 20), line(1, 2, 4, 20))
	checkSum(t, &c, 38, line(1, 1, 0, 20), line(1, 2, 4, 20), line(2, 2, 4, 20), line(2, 2, 0, 6), line(2, 3, 4, 20), line(2, 1, 0, 6))
}

// P16.2: the first wrong line's place is told, whatever is behind it, and whatever the sums are.
func TestWrongLines(t *testing.T) {
	var c caps.Caps
	set(t, &c, issuer(1), 7, nil)
	right := line(1, 1, 1, top)
	var wrong []caps.Line
	for _, n := range []int{math.MinInt, -2, -1, 0, 7, 8, 33, 256 + 1, 1<<32 + 1, math.MaxInt} {
		wrong = append(wrong, line(n, 1, 1, 1), line(1, n, 1, 1))
	}
	for _, n := range []int{math.MinInt, -2, -1, 33, 34, 256 + 1, 1<<32 + 1, math.MaxInt} {
		wrong = append(wrong, line(1, 1, n, 1), line(1, 1, n, 0))
	}
	for _, v := range []int64{math.MinInt64, -top, -1, top + 1, 1 << 60, math.MaxInt64} {
		wrong = append(wrong, line(1, 1, 1, v), line(1, 1, 0, v))
	}
	wrong = append(wrong, line(0, 0, -1, -1), caps.Line{})
	for _, w := range wrong {
		checkRange(t, &c, 0, w)
		checkRange(t, &c, 0, w, right, right)
		checkRange(t, &c, 1, right, w)
		checkRange(t, &c, 2, right, right, w, w, right)
		checkRange(t, &c, 3, right, right, right, w)
		for _, v := range wrong {
			checkRange(t, &c, 1, right, w, v)
		}
	}
}

// P16.2: each edge of a line is right.
func TestEdgesOfLines(t *testing.T) {
	var c caps.Caps
	for _, x := range each(0) {
		checkSum(t, &c, top, x)
		x.Value = 0
		checkSum(t, &c, 0, x)
	}
}

// P16.2: a sum above MaxMoney is ErrOver, also one that would be capped; one that is just as much is none.
func TestOver(t *testing.T) {
	var c caps.Caps
	checkSum(t, &c, top, line(1, 1, 0, top-1), line(1, 1, 0, 1))
	checkOver(t, &c, line(1, 1, 0, top), line(1, 1, 0, 1))
	checkOver(t, &c, line(1, 1, 0, 1), line(1, 1, 2, top))
	checkOver(t, &c, line(1, 1, 0, 1), line(1, 2, 0, top))
	checkOver(t, &c, line(1, 1, 0, 1), line(2, 1, 0, top))
	checkSum(t, &c, top, line(1, 1, 0, 1), line(1, 1, 2, top-3), line(1, 2, 2, 1), line(2, 1, 0, 1))

	set(t, &c, issuer(2), 7, nil)
	checkSum(t, &c, 7, line(1, 1, 2, top))
	checkSum(t, &c, 7, line(1, 1, 2, top), line(1, 1, 2, 0))
	checkOver(t, &c, line(1, 1, 2, top), line(1, 1, 2, 1))
	checkSum(t, &c, 14, line(1, 1, 2, top), line(1, 2, 2, top))
	checkSum(t, &c, top, line(1, 1, 2, top), line(1, 1, 3, top-7))
	checkOver(t, &c, line(1, 1, 2, top), line(1, 1, 3, top-6))

	set(t, &c, currency(2), 9, nil)
	checkSum(t, &c, 9, line(1, 2, 3, 1), line(1, 2, 4, top-1))
	checkOver(t, &c, line(1, 2, 3, 1), line(1, 2, 4, top))
	checkSum(t, &c, 18, line(1, 2, 3, top), line(2, 2, 4, top))
	checkSum(t, &c, top, line(1, 2, 3, top), line(1, 1, 3, top-9))
	checkOver(t, &c, line(1, 2, 3, top), line(1, 1, 3, top-8))

	set(t, &c, class(3), 11, nil)
	checkSum(t, &c, 11, line(3, 1, 3, 1), line(3, 3, 4, top-1))
	checkOver(t, &c, line(3, 1, 3, 1), line(3, 3, 4, top))
	checkSum(t, &c, 11, line(3, 2, 3, top), line(3, 3, 4, top-9))
	checkOver(t, &c, line(3, 2, 3, top), line(3, 3, 4, top-8))
	checkSum(t, &c, top, line(3, 1, 3, top), line(4, 1, 3, top-11))
	checkOver(t, &c, line(3, 1, 3, top), line(4, 1, 3, top-10))
}

// P16.2: a sum that would go round, in 64 bits, to a small one is above MaxMoney too.
func TestSumsGoNotRound(t *testing.T) {
	var c caps.Caps
	set(t, &c, issuer(2), 7, nil)
	for _, of := range []int{0, 2, 3} {
		checkOver(t, &c, slices.Repeat([]caps.Line{line(1, 1, of, top)}, 18447)...) // 2^64 and about MaxMoney / 4
	}
	c = caps.Caps{}
	all, issued := each(0), each(1)
	checkOver(t, &c, all...)
	for id := 1; id <= api.MaxClass; id++ {
		set(t, &c, class(id), 1, nil)
	}
	checkOver(t, &c, all...)
	for id := 1; id <= api.MaxMoneys; id++ {
		set(t, &c, currency(id), 1, nil)
	}
	checkOver(t, &c, all...)
	for id := 1; id <= api.MaxIssuer; id++ {
		set(t, &c, issuer(id), 1, nil)
	}
	checkOver(t, &c, all...)
	checkSum(t, &c, 6, issued...)
}

// each is a line of MaxMoney of each class, currency and issuer from first on.
func each(first int) []caps.Line {
	var l []caps.Line
	for class := 1; class <= api.MaxClass; class++ {
		for money := 1; money <= api.MaxMoneys; money++ {
			for issuer := first; issuer <= api.MaxIssuer; issuer++ {
				l = append(l, line(class, money, issuer, top))
			}
		}
	}
	return l
}

// told is what Sum has to answer of right lines: it goes through all classes, currencies and issuers.
func told(c *caps.Caps, l []caps.Line) (int64, error) {
	over := false
	under := func(sum int64, limit caps.Limit) int64 {
		over = over || sum > top
		if most := c.Get(limit); most != 0 && sum > most {
			return most
		}
		return sum
	}
	var whole int64
	for cl := 1; cl <= api.MaxClass; cl++ {
		var ofClass int64
		for mo := 1; mo <= api.MaxMoneys; mo++ {
			var ofMoney int64
			for is := 0; is <= api.MaxIssuer; is++ {
				var ofIssuer int64
				for _, x := range l {
					if x.Class == cl && x.Money == mo && x.Issuer == is {
						ofIssuer += x.Value
					}
				}
				ofMoney += under(ofIssuer, issuer(is))
			}
			ofClass += under(ofMoney, currency(mo))
		}
		whole += under(ofClass, class(cl))
	}
	if over || whole > top {
		return 0, api.ErrOver
	}
	return whole, nil
}

// P16.2: for many lines and limits, small and great, the sum is what the words say, in whatever order the lines come.
func TestAsTheWordsSay(t *testing.T) {
	r := rand.New(rand.NewSource(16))
	var over int
	for range 3000 {
		most := []int64{3, 20, 100, top / 3, top}[r.Intn(5)]
		var c caps.Caps
		for range r.Intn(12) {
			l := all()[r.Intn(len(all()))]
			set(t, &c, l, 1+r.Int63n(most), nil)
		}
		var l []caps.Line
		few := 1 + r.Intn(6)
		for range r.Intn(14) {
			l = append(l, line(1+r.Intn(few), 1+r.Intn(few), r.Intn(few), r.Int63n(most)))
		}
		want, err := told(&c, l)
		if err != nil {
			over++
		}
		for range 3 {
			if got, gotErr := c.Sum(l...); got != want || gotErr != err {
				t.Fatalf("limits %v: Sum(%v) = %d, %v, want %d, %v", c.All(), l, got, gotErr, want, err)
			}
			r.Shuffle(len(l), func(i, k int) { l[i], l[k] = l[k], l[i] })
		}
	}
	if over == 0 || over > 1500 {
		t.Error("lines above MaxMoney:", over)
	}
}

// P0.2, P0.4: Sum changes neither the limits nor the lines, nor what lies behind them.
func TestSumChangesNothing(t *testing.T) {
	var c caps.Caps
	set(t, &c, issuer(2), 7, nil)
	set(t, &c, class(1), 20, nil)
	l := []caps.Line{line(1, 1, 2, 9), line(1, 1, 2, 9), line(1, 1, 0, 9), line(0, 1, 0, 1), line(1, 1, 0, top)}
	was := slices.Clone(l)
	checkSum(t, &c, 16, l[:3]...)
	checkRange(t, &c, 3, l...)
	checkOver(t, &c, line(1, 1, 0, top), line(1, 1, 0, top))
	checkSum(t, &c, 16, l[:3]...)
	if !slices.Equal(l, was) {
		t.Errorf("the lines are %v, want %v", l, was)
	}
	checkAll(t, &c, class(1), issuer(2))
	checkGet(t, &c, issuer(2), 7)
	checkGet(t, &c, class(1), 20)
	checkGet(t, &c, issuer(0), 0)
}

// P0.4: each list of All is new memory, spare room too.
func TestAllIsNew(t *testing.T) {
	var c caps.Caps
	for _, l := range []caps.Limit{class(1), currency(2), issuer(3)} {
		set(t, &c, l, 5, nil)
	}
	first, second := c.All(), c.All()
	for i := range first[:cap(first)] {
		first[:cap(first)][i] = issuer(9)
	}
	if want := []caps.Limit{class(1), currency(2), issuer(3)}; !slices.Equal(second, want) {
		t.Errorf("the second list is %v, want %v", second, want)
	}
	_ = append(second, issuer(8))
	checkAll(t, &c, class(1), currency(2), issuer(3))
}

// P0.5: limits of one are not of another.
func TestEachCapsByItself(t *testing.T) {
	var a, b caps.Caps
	set(t, &a, issuer(2), 7, nil)
	checkAll(t, &b)
	checkSum(t, &b, 10, line(1, 1, 2, 10))
	set(t, &b, issuer(2), 3, nil)
	set(t, &b, class(1), 2, nil)
	checkSum(t, &a, 7, line(1, 1, 2, 10))
	checkSum(t, &b, 2, line(1, 1, 2, 10))
	set(t, &b, issuer(2), 0, nil)
	checkAll(t, &a, issuer(2))
	checkAll(t, &b, class(1))
}
