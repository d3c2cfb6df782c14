package money_test

import (
	"math"
	"math/big"
	"slices"
	"testing"

	"pledge/api"
	"pledge/money"
)

const (
	most  = math.MaxInt64
	least = math.MinInt64
)

// check holds an answer against the one that is asked for; an error is the sentinel itself.
func check(t *testing.T, name string, args []int64, n int64, err error, want int64, wantErr error) {
	t.Helper()
	if n != want || err != wantErr {
		t.Errorf("%s(%v) = %d, %v; want %d, %v", name, args, n, err, want, wantErr)
	}
}

// cut is what a call has to answer: all of factors over divisor, without bounds, down or up, then held against MaxMoney.
func cut(divisor int64, up bool, factors ...int64) (int64, error) {
	p := big.NewInt(1)
	for _, f := range factors {
		p.Mul(p, big.NewInt(f))
	}
	q, rest := p.DivMod(p, big.NewInt(divisor), new(big.Int))
	if up && rest.Sign() > 0 {
		q.Add(q, big.NewInt(1))
	}
	if q.Cmp(big.NewInt(api.MaxMoney)) > 0 {
		return 0, api.ErrOver
	}
	return q.Int64(), nil
}

// inside are numbers from 0 to max: its ends, and such as leave rests.
func inside(max int64) []int64 {
	out := []int64{0, 1, 2, 3, 7, 9, 99, max / 3, max / 2, max/2 + 1, max - 7, max - 1, max}
	for n := int64(10); n < max; n *= 10 {
		out = append(out, n-1, n, n+1, n/3, n/3+1)
	}
	out = slices.DeleteFunc(out, func(n int64) bool { return n < 0 || n > max })
	slices.Sort(out)
	return slices.Compact(out)
}

// outside are numbers that are not from 0 to max.
func outside(max int64) []int64 {
	return []int64{-1, -2, -max, least + 1, least, max + 1, max + 2, 2 * max, most - 1, most}
}

// calls are those of numbers with a range each, and what each of them has to answer within its ranges.
func calls() []call {
	part := func(up bool) func(a []int64) (int64, error) {
		return func(a []int64) (int64, error) { return money.Part(a[0], a[1], up) }
	}
	return []call{
		{"Worth", []int64{api.MaxQty, api.MaxPrice},
			func(a []int64) (int64, error) { return money.Worth(a[0], a[1]) },
			func(a []int64) (int64, error) { return cut(10000, false, a...) }},
		{"Base", []int64{api.MaxMoney, api.MaxRate},
			func(a []int64) (int64, error) { return money.Base(a[0], a[1]) },
			func(a []int64) (int64, error) { return cut(1000000, false, a...) }},
		{"Less", []int64{api.MaxMoney, api.MaxBP},
			func(a []int64) (int64, error) { return money.Less(a[0], a[1]) },
			func(a []int64) (int64, error) { return cut(10000, false, a[0], 10000-a[1]) }},
		{"Part down", []int64{api.MaxMoney, api.MaxBP}, part(false),
			func(a []int64) (int64, error) { return cut(10000, false, a...) }},
		{"Part up", []int64{api.MaxMoney, api.MaxBP}, part(true),
			func(a []int64) (int64, error) { return cut(10000, true, a...) }},
		{"Interest", []int64{api.MaxMoney, api.MaxBP, api.MaxDay},
			func(a []int64) (int64, error) { return money.Interest(a[0], a[1], a[2]) },
			func(a []int64) (int64, error) { return cut(3600000, false, a...) }},
	}
}

type call struct {
	name  string
	max   []int64
	do    func(a []int64) (int64, error)
	exact func(a []int64) (int64, error)
}

// each hands out every row of one number of each list.
func each(lists [][]int64, yield func(a []int64)) {
	if len(lists) == 0 {
		yield(nil)
		return
	}
	for _, n := range lists[0] {
		each(lists[1:], func(a []int64) { yield(append([]int64{n}, a...)) })
	}
}

// P3.1, P0.6: each is what it is without bounds, cut once, at the end, and then held against MaxMoney.
func TestWithinTheRanges(t *testing.T) {
	for _, c := range calls() {
		var lists [][]int64
		for _, max := range c.max {
			lists = append(lists, inside(max))
		}
		each(lists, func(a []int64) {
			n, err := c.do(a)
			want, wantErr := c.exact(a)
			check(t, c.name, a, n, err, want, wantErr)
		})
	}
}

// P3.1: ErrRange, whichever of the numbers is out of its range, whatever the others are, and ahead of ErrOver.
func TestOutOfTheRanges(t *testing.T) {
	for _, c := range calls() {
		for out := range c.max {
			var lists [][]int64
			for i, max := range c.max {
				if i == out {
					lists = append(lists, outside(max))
				} else {
					lists = append(lists, []int64{0, 1, max, max + 1, -1, least, most})
				}
			}
			each(lists, func(a []int64) {
				n, err := c.do(a)
				check(t, c.name, a, n, err, 0, api.ErrRange)
			})
		}
	}
}

// P3.1
func TestWorth(t *testing.T) {
	for _, x := range []struct {
		qty, price int64
		want       int64
		err        error
	}{
		{5, 9999, 4, nil},
		{5, 10000, 5, nil},
		{1, 9999, 0, nil},
		{9999, 1, 0, nil},
		{10000, 1, 1, nil},
		{0, api.MaxPrice, 0, nil},
		{api.MaxQty, 0, 0, nil},
		{1, api.MaxPrice, 100000, nil},
		{api.MaxQty, 1, 100000000, nil},
		{api.MaxQty, 10000000, api.MaxMoney, nil},
		{999955301998, 10000447, api.MaxMoney - 1, nil},
		{999999000001, 10000010, api.MaxMoney, nil}, // and a thousandth, which is cut off first
		{999000999001, 10010000, 0, api.ErrOver},    // just 1 above
		{api.MaxQty, 10000001, 0, api.ErrOver},
		{api.MaxQty, api.MaxPrice, 0, api.ErrOver},
		{api.MaxQty + 1, 0, 0, api.ErrRange},
		{-1, 0, 0, api.ErrRange},
		{0, api.MaxPrice + 1, 0, api.ErrRange},
		{0, -1, 0, api.ErrRange},
		{-5, -9999, 0, api.ErrRange},
		{api.MaxQty + 1, api.MaxPrice, 0, api.ErrRange},
	} {
		n, err := money.Worth(x.qty, x.price)
		check(t, "Worth", []int64{x.qty, x.price}, n, err, x.want, x.err)
	}
}

// P3.1
func TestBase(t *testing.T) {
	for _, x := range []struct {
		v, rate int64
		want    int64
		err     error
	}{
		{3, 500000, 1, nil},
		{2, 500000, 1, nil},
		{1, 999999, 0, nil},
		{1, 1000000, 1, nil},
		{999999, 1, 0, nil},
		{1000000, 1, 1, nil},
		{0, api.MaxRate, 0, nil},
		{api.MaxMoney, 0, 0, nil},
		{1000000000000, api.MaxRate, api.MaxMoney, nil},
		{1000000000001, api.MaxRate, 0, api.ErrOver},
		{api.MaxMoney, 1000000, api.MaxMoney, nil},
		{api.MaxMoney, 1000001, 0, api.ErrOver},
		{666666666666667, 1500000, api.MaxMoney, nil}, // and a half, which is cut off first
		{142857142857143, 7000000, 0, api.ErrOver},    // just 1 above
		{api.MaxMoney, api.MaxRate, 0, api.ErrOver},
		{api.MaxMoney + 1, 0, 0, api.ErrRange},
		{-1, 0, 0, api.ErrRange},
		{0, api.MaxRate + 1, 0, api.ErrRange},
		{0, -1, 0, api.ErrRange},
		{-2, -500000, 0, api.ErrRange},
		{api.MaxMoney, api.MaxRate + 1, 0, api.ErrRange},
	} {
		n, err := money.Base(x.v, x.rate)
		check(t, "Base", []int64{x.v, x.rate}, n, err, x.want, x.err)
	}
}

// P3.1: what is left is cut down, not what is taken off.
func TestLess(t *testing.T) {
	for _, x := range []struct {
		v, bp int64
		want  int64
		err   error
	}{
		{99, 100, 98, nil},
		{100, 100, 99, nil},
		{99, 0, 99, nil},
		{99, api.MaxBP, 0, nil},
		{1, 1, 0, nil},
		{10000, 9999, 1, nil},
		{9999, 9999, 0, nil},
		{0, 0, 0, nil},
		{api.MaxMoney, 0, api.MaxMoney, nil},
		{api.MaxMoney, 1, api.MaxMoney - 100000000000, nil},
		{api.MaxMoney, api.MaxBP, 0, nil},
		{api.MaxMoney + 1, api.MaxBP, 0, api.ErrRange},
		{-1, api.MaxBP, 0, api.ErrRange},
		{99, api.MaxBP + 1, 0, api.ErrRange},
		{99, -1, 0, api.ErrRange},
		{99, least, 0, api.ErrRange},
		{99, most, 0, api.ErrRange},
	} {
		n, err := money.Less(x.v, x.bp)
		check(t, "Less", []int64{x.v, x.bp}, n, err, x.want, x.err)
	}
}

// P3.1: its ranges are those of Less.
func TestPart(t *testing.T) {
	for _, x := range []struct {
		v, bp    int64
		down, up int64
		err      error
	}{
		{99, 100, 0, 1, nil},
		{100, 100, 1, 1, nil},
		{101, 100, 1, 2, nil},
		{200, 100, 2, 2, nil},
		{1, 1, 0, 1, nil},
		{1, 9999, 0, 1, nil},
		{1, api.MaxBP, 1, 1, nil},
		{0, api.MaxBP, 0, 0, nil},
		{99, 0, 0, 0, nil},
		{api.MaxMoney, api.MaxBP, api.MaxMoney, api.MaxMoney, nil},
		{api.MaxMoney - 1, 9999, 999899999999999, 999900000000000, nil},
		{api.MaxMoney + 1, 0, 0, 0, api.ErrRange},
		{-1, 0, 0, 0, api.ErrRange},
		{0, api.MaxBP + 1, 0, 0, api.ErrRange},
		{1, -1, 0, 0, api.ErrRange},
		{-99, -100, 0, 0, api.ErrRange},
		{api.MaxMoney, api.MaxBP + 1, 0, 0, api.ErrRange},
	} {
		n, err := money.Part(x.v, x.bp, false)
		check(t, "Part down", []int64{x.v, x.bp}, n, err, x.down, x.err)
		n, err = money.Part(x.v, x.bp, true)
		check(t, "Part up", []int64{x.v, x.bp}, n, err, x.up, x.err)
	}
}

// P3.1: a year has 360 days, and it is cut once, behind all three.
func TestInterest(t *testing.T) {
	for _, x := range []struct {
		v, bp, days int64
		want        int64
		err         error
	}{
		{36000, 100, 1, 1, nil},
		{35999, 100, 1, 0, nil},
		{3600000, 1, 1, 1, nil},
		{3599999, 1, 1, 0, nil},
		{100, api.MaxBP, 360, 100, nil},
		{100, api.MaxBP, 359, 99, nil},
		{5, 5000, 720, 5, nil},      // not 2 a year, twice
		{1, 1, api.MaxDay, 0, nil},  // a ninetieth
		{90, 1, api.MaxDay, 1, nil}, // just 1
		{180, 5000, 30, 7, nil},     // 7 and a half
		{19999, 1, 180, 0, nil},     // just below 1
		{20000, 1, 180, 1, nil},     // just 1
		{0, api.MaxBP, 40000, 0, nil},
		{api.MaxMoney, 0, api.MaxDay, 0, nil},
		{api.MaxMoney, api.MaxBP, 0, 0, nil},
		{9000000000000, api.MaxBP, api.MaxDay, api.MaxMoney, nil},
		{9000000000001, api.MaxBP, api.MaxDay, 0, api.ErrOver},
		{api.MaxMoney, api.MaxBP, 360, api.MaxMoney, nil},
		{api.MaxMoney, api.MaxBP, 361, 0, api.ErrOver},
		{666666666666667, api.MaxBP, 540, api.MaxMoney, nil}, // and a half, which is cut off first
		{142857142857143, api.MaxBP, 2520, 0, api.ErrOver},   // just 1 above
		{api.MaxMoney, api.MaxBP, api.MaxDay, 0, api.ErrOver},
		{api.MaxMoney + 1, 0, 0, 0, api.ErrRange},
		{-1, 0, 0, 0, api.ErrRange},
		{0, api.MaxBP + 1, 0, 0, api.ErrRange},
		{0, -1, 0, 0, api.ErrRange},
		{0, 0, api.MaxDay + 1, 0, api.ErrRange},
		{0, 0, -1, 0, api.ErrRange},
		{36000, -100, -1, 0, api.ErrRange},
		{api.MaxMoney, api.MaxBP, api.MaxDay + 1, 0, api.ErrRange},
	} {
		n, err := money.Interest(x.v, x.bp, x.days)
		check(t, "Interest", []int64{x.v, x.bp, x.days}, n, err, x.want, x.err)
	}
}

// P3.1: each one's range is asked for ahead of the sum.
func TestTotal(t *testing.T) {
	const all = api.MaxMoney
	for _, x := range []struct {
		l    []int64
		want int64
		err  error
	}{
		{nil, 0, nil},
		{[]int64{}, 0, nil},
		{[]int64{0}, 0, nil},
		{[]int64{7}, 7, nil},
		{[]int64{1, 2, 3}, 6, nil},
		{[]int64{0, all, 0}, all, nil},
		{[]int64{all - 3, 1, 2}, all, nil},
		{[]int64{all - 3, 2, 2}, 0, api.ErrOver},
		{[]int64{1, all}, 0, api.ErrOver},
		{[]int64{all, all, all}, 0, api.ErrOver},
		{[]int64{all + 1}, 0, api.ErrRange},
		{[]int64{-1}, 0, api.ErrRange},
		{[]int64{-1, 1}, 0, api.ErrRange},
		{[]int64{5, -1, 5}, 0, api.ErrRange},
		{[]int64{all, 1, -1}, 0, api.ErrRange},
		{[]int64{all, 1, all + 1}, 0, api.ErrRange},
		{[]int64{most, least}, 0, api.ErrRange},
		{[]int64{1, least, most, 1}, 0, api.ErrRange},
	} {
		n, err := money.Total(x.l...)
		check(t, "Total", x.l, n, err, x.want, x.err)
	}
}

// P3.1, P0.6: the sum is above MaxMoney also where 64 bits would have gone round, to one below it too.
func TestTotalOfMany(t *testing.T) {
	for _, count := range []int{9223, 9224, 18446, 18447, 36894} {
		n, err := money.Total(slices.Repeat([]int64{api.MaxMoney}, count)...)
		check(t, "Total of MaxMoney, times", []int64{int64(count)}, n, err, 0, api.ErrOver)
	}
	l := slices.Repeat([]int64{api.MaxMoney / 100000}, 100000)
	n, err := money.Total(l...)
	check(t, "Total of just enough", nil, n, err, api.MaxMoney, nil)
	n, err = money.Total(append(l, 1)...)
	check(t, "Total of 1 more", nil, n, err, 0, api.ErrOver)
	n, err = money.Total(append(l, 1, -1)...)
	check(t, "Total of 1 more, and a wrong one", nil, n, err, 0, api.ErrRange)
}

// P3.1, P0.4: what is handed in stays as it is, and is not read behind its length.
func TestTotalChangesNothing(t *testing.T) {
	room := []int64{3, 1, 2, -9}
	n, err := money.Total(room[:3]...)
	check(t, "Total", room[:3], n, err, 6, nil)
	if !slices.Equal(room, []int64{3, 1, 2, -9}) {
		t.Error(room)
	}
}
