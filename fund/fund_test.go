package fund_test

import (
	"math"
	"math/big"
	"slices"
	"testing"

	"pledge/api"
	"pledge/fund"
)

const most = api.MaxMoney

func checkClamp(t *testing.T, n, floor, top, want int64, wantErr error) {
	t.Helper()
	if got, err := fund.Clamp(n, floor, top); got != want || err != wantErr {
		t.Errorf("Clamp(%d, %d, %d) = %d, %v, want %d, %v", n, floor, top, got, err, want, wantErr)
	}
}

func checkCalls(t *testing.T, old, next, want []int64) {
	t.Helper()
	if got := fund.Calls(old, next); !slices.Equal(got, want) {
		t.Errorf("Calls(%v, %v) = %v, want %v", old, next, got, want)
	}
}

// wrongAmounts are no amounts; some would be one in fewer bits.
func wrongAmounts() []int64 {
	return []int64{-1, -2, -5, -most, most + 1, most + 2, 2 * most, 1 - 1<<50, 1<<50 + 1, 1<<60 + 1, math.MinInt64, math.MinInt64 + 1, math.MinInt64 + 5, math.MaxInt64 - 1, math.MaxInt64}
}

// P24.1: Clamp is n, at least floor, at most cap.
func TestClamp(t *testing.T) {
	for _, x := range []struct{ n, floor, top, want int64 }{
		{5, 3, 9, 5},
		{4, 3, 9, 4},
		{3, 3, 9, 3},
		{2, 3, 9, 3},
		{0, 3, 9, 3},
		{8, 3, 9, 8},
		{9, 3, 9, 9},
		{10, 3, 9, 9},
		{most, 3, 9, 9},
		{3, 4, 4, 4},
		{4, 4, 4, 4},
		{5, 4, 4, 4},
		{0, 0, 0, 0},
		{1, 0, 0, 0},
		{most, 0, 0, 0},
		{0, 0, most, 0},
		{1, 0, most, 1},
		{most - 1, 0, most, most - 1},
		{most, 0, most, most},
		{most, 0, most - 1, most - 1},
		{0, most, most, most},
		{most - 1, most, most, most},
		{most, most, most, most},
		{0, most - 1, most, most - 1},
	} {
		checkClamp(t, x.n, x.floor, x.top, x.want, nil)
	}
}

// P24.1: all small numbers, some below 0: ErrRange, or the one in the middle of the three.
func TestSmallClamps(t *testing.T) {
	for n := int64(-2); n <= 6; n++ {
		for floor := int64(-2); floor <= 6; floor++ {
			for top := int64(-2); top <= 6; top++ {
				three := []int64{n, floor, top}
				if slices.Min(three) < 0 || floor > top {
					checkClamp(t, n, floor, top, 0, api.ErrRange)
					continue
				}
				slices.Sort(three)
				checkClamp(t, n, floor, top, three[1], nil)
			}
		}
	}
}

// P24.1, P0.3: Clamp is ErrRange and nothing beside, if one is no amount, whichever.
func TestClampWrong(t *testing.T) {
	for _, wrong := range wrongAmounts() {
		for _, right := range []int64{0, 1, 5, most} {
			checkClamp(t, wrong, right, right, 0, api.ErrRange)
			checkClamp(t, wrong, 0, right, 0, api.ErrRange)
			checkClamp(t, wrong, 0, most, 0, api.ErrRange)
			checkClamp(t, right, wrong, right, 0, api.ErrRange)
			checkClamp(t, right, wrong, most, 0, api.ErrRange)
			checkClamp(t, right, right, wrong, 0, api.ErrRange)
			checkClamp(t, right, 0, wrong, 0, api.ErrRange)
			checkClamp(t, right, wrong, wrong, 0, api.ErrRange)
			checkClamp(t, wrong, wrong, right, 0, api.ErrRange)
			checkClamp(t, wrong, right, wrong, 0, api.ErrRange)
		}
		checkClamp(t, wrong, wrong, wrong, 0, api.ErrRange)
	}
}

// P24.1: Clamp is ErrRange of a floor above the cap, whatever n is, and not of one at it.
func TestClampOfFloorAboveCap(t *testing.T) {
	for _, top := range []int64{0, 1, 5, most - 1} {
		for _, n := range []int64{0, 1, 5, most} {
			checkClamp(t, n, top, top, top, nil)
			checkClamp(t, n, top+1, top, 0, api.ErrRange)
			checkClamp(t, n, most, top, 0, api.ErrRange)
		}
	}
}

// P24.1: Calls is what the new one has above the old one, and nothing where it has not.
func TestCalls(t *testing.T) {
	for _, x := range []struct{ old, next, want []int64 }{
		{nil, nil, nil},
		{[]int64{}, []int64{}, nil},
		{[]int64{0}, []int64{0}, []int64{0}},
		{[]int64{5}, []int64{8}, []int64{3}},
		{[]int64{5}, []int64{6}, []int64{1}},
		{[]int64{5}, []int64{5}, []int64{0}},
		{[]int64{5}, []int64{4}, []int64{0}},
		{[]int64{5}, []int64{0}, []int64{0}},
		{[]int64{0}, []int64{5}, []int64{5}},
		{[]int64{1, 5}, []int64{3, 4}, []int64{2, 0}},
		{[]int64{5, 1}, []int64{4, 3}, []int64{0, 2}}, // what one has less helps no other
		{[]int64{1, 2, 3}, []int64{3, 2, 1}, []int64{2, 0, 0}},
		{[]int64{0, most}, []int64{most, 0}, []int64{most, 0}},
		{[]int64{most - 1}, []int64{most}, []int64{1}},
		{[]int64{most}, []int64{most}, []int64{0}},
	} {
		checkCalls(t, x.old, x.next, x.want)
	}
}

// P24.1: Calls is of each member of the longer one; what lacks in the other is 0.
func TestCallsOfOtherLengths(t *testing.T) {
	for _, x := range []struct{ old, next, want []int64 }{
		{nil, []int64{3}, []int64{3}},
		{[]int64{3}, nil, []int64{0}},
		{nil, []int64{0, 0}, []int64{0, 0}},
		{[]int64{1, 5}, []int64{3, 4, 7}, []int64{2, 0, 7}},
		{[]int64{1, 5, 9}, []int64{3}, []int64{2, 0, 0}},
		{[]int64{1, 5, 9}, []int64{3, 5, 9, 0, 4}, []int64{2, 0, 0, 0, 4}},
	} {
		checkCalls(t, x.old, x.next, x.want)
	}
	for _, long := range []int{1, api.MaxMember, api.MaxMember + 1, 1000} {
		for short := range min(long, 40) {
			full, part := slices.Repeat([]int64{7}, long), slices.Repeat([]int64{2}, short)
			fewer, more := make([]int64, long), make([]int64, long)
			for i := range long {
				more[i] = 7
				if i < short {
					more[i] = 5
				}
			}
			checkCalls(t, part, full, more)
			checkCalls(t, full, part, fewer)
		}
	}
}

// callOf is what next has above old, in numbers without bounds, as far as 64 bits have it.
func callOf(old, next int64) int64 {
	above := new(big.Int).Sub(big.NewInt(next), big.NewInt(old))
	if above.Sign() < 0 {
		return 0
	}
	if !above.IsInt64() {
		return math.MaxInt64
	}
	return above.Int64()
}

// P24.1, P0.6: Calls of numbers that are no amounts, too, is what the new one has above, and never goes round.
func TestCallsOfAnyNumbers(t *testing.T) {
	checkCalls(t, []int64{-3, -5, 5, -3}, []int64{5, -3, -3, -5}, []int64{8, 2, 0, 0})
	checkCalls(t, []int64{-3}, nil, []int64{3})
	checkCalls(t, nil, []int64{-3}, []int64{0})
	checkCalls(t, []int64{math.MinInt64, math.MaxInt64, math.MinInt64}, []int64{math.MaxInt64, math.MinInt64, -1}, []int64{math.MaxInt64, 0, math.MaxInt64})
	checkCalls(t, []int64{1, 2, math.MaxInt64}, []int64{math.MinInt64, math.MinInt64 + 1, -2}, []int64{0, 0, 0})
	checkCalls(t, []int64{-1, -1}, []int64{math.MaxInt64, math.MaxInt64 - 1}, []int64{math.MaxInt64, math.MaxInt64})
	numbers := append(wrongAmounts(), 0, 1, 2, 5, most-1, most, math.MinInt64/2, math.MinInt64/2-1, math.MaxInt64/2, math.MaxInt64/2+1, math.MaxInt64/2+2)
	var old, next, want []int64
	for _, n := range numbers {
		for _, m := range numbers {
			checkCalls(t, []int64{n}, []int64{m}, []int64{callOf(n, m)})
			old, next, want = append(old, n), append(next, m), append(want, callOf(n, m))
		}
		checkCalls(t, []int64{n}, nil, []int64{callOf(n, 0)})
		checkCalls(t, nil, []int64{n}, []int64{callOf(0, n)})
	}
	checkCalls(t, old, next, want)
}

// P0.4: what is handed in to Calls stays as it was, and what lies behind its length is neither read nor written.
func TestCallsHandedIn(t *testing.T) {
	old, next := []int64{1, 5, 9, 100}, []int64{3, 4, 7, 200}
	wasOld, wasNext := slices.Clone(old), slices.Clone(next)
	checkCalls(t, old[:2], next[:3], []int64{2, 0, 7})
	checkCalls(t, old[:3], next[:1], []int64{2, 0, 0})
	checkCalls(t, old[:0], next[:1], []int64{3})
	checkCalls(t, old[:1], next[:0], []int64{0})
	checkCalls(t, old[:0], next[:0], nil)
	checkCalls(t, old, old, []int64{0, 0, 0, 0})
	if !slices.Equal(old, wasOld) || !slices.Equal(next, wasNext) {
		t.Errorf("what was handed in is %v, %v now, and was %v, %v", old, next, wasOld, wasNext)
	}
}

// scribble writes into all that l has, its spare room too.
func scribble(l []int64) {
	room := l[:cap(l)]
	for i := range room {
		room[i] = -77
	}
	_ = append(l, -78)
}

// P0.4: Calls' lists are new memory, their spare room too.
func TestCallsAreNewMemory(t *testing.T) {
	for _, x := range []struct{ old, next, want []int64 }{
		{[]int64{1, 5}, []int64{3, 4, 7}, []int64{2, 0, 7}},
		{nil, []int64{3, 4}, []int64{3, 4}},
		{[]int64{0, 0}, []int64{3, 4}, []int64{3, 4}},
		{[]int64{3, 4}, nil, []int64{0, 0}},
		{nil, nil, nil},
	} {
		one, other := fund.Calls(x.old, x.next), fund.Calls(x.old, x.next)
		scribble(one)
		if !slices.Equal(other, x.want) {
			t.Errorf("another list shows %v, want %v", other, x.want)
		}
		checkCalls(t, x.old, x.next, x.want)
	}
}
