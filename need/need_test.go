package need_test

import (
	"math"
	"math/big"
	"math/rand"
	"slices"
	"testing"

	"pledge/api"
	"pledge/need"
)

const top = api.MaxMoney

func state(needed, have int64) need.State { return need.State{Need: needed, Have: have} }

// check asks all calls that are of one state; short and spare are 0, if it is not valid.
func check(t *testing.T, s need.State, short, spare int64, valid error) {
	t.Helper()
	if got := need.Short(s); got != short {
		t.Errorf("Short(%v) = %d, want %d", s, got, short)
	}
	if got := need.Spare(s); got != spare {
		t.Errorf("Spare(%v) = %d, want %d", s, got, spare)
	}
	if got := need.Bound(s); got != (short != 0) {
		t.Errorf("Bound(%v) = %v", s, got)
	}
	if got := need.Valid(s); got != valid {
		t.Errorf("Valid(%v) = %v, want %v", s, got, valid)
	}
}

func checkWorst(t *testing.T, want int, is bool, l ...need.State) {
	t.Helper()
	if got, ok := need.Worst(l...); got != want || ok != is {
		t.Errorf("Worst(%v) = %d, %v, want %d, %v", l[:min(9, len(l))], got, ok, want, is)
	}
}

func checkTotal(t *testing.T, want int64, wantErr error, l ...need.State) {
	t.Helper()
	if got, err := need.Total(l...); got != want || err != wantErr {
		t.Errorf("Total(%v) of %d = %d, %v, want %d, %v", l[:min(9, len(l))], len(l), got, err, want, wantErr)
	}
}

// amounts are right numbers, with both edges, rising.
func amounts() []int64 {
	return []int64{0, 1, 2, 3, 255, 256, 1<<31 - 1, 1 << 31, 1 << 32, 1<<32 + 1, top / 2, top - 2, top - 1, top}
}

// outside are numbers that are no amounts.
func outside() []int64 {
	return []int64{math.MinInt64, math.MinInt64 + 1, -1 << 32, -top - 1, -top, -2, -1, top + 1, top + 2, 2 * top, 1 << 53, math.MaxInt64 - 1, math.MaxInt64}
}

// wrong are states with one number that is wrong, or two.
func wrong() []need.State {
	var l []need.State
	for _, w := range outside() {
		for _, n := range amounts() {
			l = append(l, state(w, n), state(n, w))
		}
		for _, v := range outside() {
			l = append(l, state(w, v))
		}
	}
	return l
}

// P17.1: the example, and what lacks, what is above, or neither.
func TestOneState(t *testing.T) {
	check(t, need.State{}, 0, 0, nil)
	check(t, state(5, 3), 2, 0, nil)
	check(t, state(3, 5), 0, 2, nil)
	check(t, state(5, 5), 0, 0, nil)
	check(t, state(5, 4), 1, 0, nil)
	check(t, state(4, 5), 0, 1, nil)
	check(t, state(1, 0), 1, 0, nil)
	check(t, state(0, 1), 0, 1, nil)
}

// P17.1: from 0 to MaxMoney each is valid, and the differences are just what they are.
func TestEdgesOfOneState(t *testing.T) {
	check(t, state(top, 0), top, 0, nil)
	check(t, state(0, top), 0, top, nil)
	check(t, state(top, top), 0, 0, nil)
	check(t, state(top, top-1), 1, 0, nil)
	check(t, state(top-1, top), 0, 1, nil)
	for i, less := range amounts() {
		check(t, state(less, less), 0, 0, nil)
		for _, more := range amounts()[i+1:] {
			check(t, state(more, less), more-less, 0, nil)
			check(t, state(less, more), 0, more-less, nil)
		}
	}
}

// P17.1: a number below 0 or above MaxMoney, in either place or both, is ErrRange; nothing lacks there, and nothing is above.
func TestWrongStates(t *testing.T) {
	for _, s := range wrong() {
		check(t, s, 0, 0, api.ErrRange)
	}
}

// P17.1: the worst is the one that lacks most, wherever it stands.
func TestWorst(t *testing.T) {
	checkWorst(t, 0, true, state(5, 3))
	checkWorst(t, 0, true, state(1, 0))
	checkWorst(t, 0, true, state(top, 0), state(top, 1))
	checkWorst(t, 1, true, state(top, 1), state(top, 0))
	checkWorst(t, 3, true, state(1, 5), state(5, 3), state(9, 7), state(8, 5), state(3, 0))
	checkWorst(t, 2, true, state(9, 8), state(top, top), state(4, 1), state(0, top), state(top, top-2))
	l := make([]need.State, 300)
	for i := range l {
		l[i] = state(9, 2)
		checkWorst(t, i, true, l...)
		l[i] = state(top, top)
	}
}

// P17.1, P0.7: of several that lack as much, the first is the worst.
func TestFirstOfTheWorst(t *testing.T) {
	checkWorst(t, 0, true, state(5, 3), state(5, 3), state(2, 0))
	checkWorst(t, 1, true, state(5, 4), state(5, 3), state(2, 0), state(top, top-2))
	checkWorst(t, 2, true, state(3, 5), state(5, 4), state(5, 1), state(6, 3), state(4, 0), state(9, 5))
}

// P17.1, P0.3: where nothing lacks there is no worst, and no place.
func TestNoWorst(t *testing.T) {
	checkWorst(t, 0, false)
	checkWorst(t, 0, false, []need.State{}...)
	checkWorst(t, 0, false, need.State{})
	checkWorst(t, 0, false, state(1, 5), state(5, 5))
	checkWorst(t, 0, false, state(0, top), state(top, top), state(1, 2))
}

// P17.1: only a valid one can be the worst.
func TestWorstOfWrongStates(t *testing.T) {
	checkWorst(t, 0, false, wrong()...)
	for _, w := range wrong() {
		checkWorst(t, 0, false, w)
		checkWorst(t, 0, false, state(1, 1), w, state(0, 9))
		checkWorst(t, 1, true, w, state(1, 0))
		checkWorst(t, 0, true, state(1, 0), w)
		checkWorst(t, 3, true, state(1, 0), w, state(9, 9), state(2, 0), w, state(2, 0))
	}
}

// P17.1: all that lacks is added; what is above is not taken off.
func TestTotal(t *testing.T) {
	checkTotal(t, 0, nil)
	checkTotal(t, 0, nil, []need.State{}...)
	checkTotal(t, 0, nil, need.State{})
	checkTotal(t, 0, nil, state(5, 5), state(0, top), state(top, top))
	checkTotal(t, 2, nil, state(5, 3))
	checkTotal(t, 2, nil, state(5, 3), state(3, 5))
	checkTotal(t, 2, nil, state(0, top), state(5, 3), state(0, top))
	checkTotal(t, 9, nil, state(5, 3), state(1, 9), state(9, 2))
	checkTotal(t, 1000, nil, slices.Repeat([]need.State{state(7, 6)}, 1000)...)
}

// P17.1: just MaxMoney is no error, one more is ErrOver, in whatever order they come.
func TestTotalOver(t *testing.T) {
	checkTotal(t, top, nil, state(top, 0))
	checkTotal(t, top, nil, state(top-1, 0), state(1, 0))
	checkTotal(t, top, nil, state(top, 1), state(top, top), state(3, 2), state(0, top))
	checkTotal(t, top, nil, state(0, top), state(1, 0), state(top, 1), state(0, top))
	checkTotal(t, 0, api.ErrOver, state(top, 0), state(1, 0))
	checkTotal(t, 0, api.ErrOver, state(1, 0), state(top, 0))
	checkTotal(t, 0, api.ErrOver, state(top, 1), state(top, top-2))
	checkTotal(t, 0, api.ErrOver, state(top, 0), state(0, top), state(1, 0), state(0, top))
	checkTotal(t, 0, api.ErrOver, state(top, 0), state(top, 0))
}

// P17.1: a sum that is no number of 64 bits, or would go round to a small one, is above MaxMoney too.
func TestTotalGoesNotRound(t *testing.T) {
	for _, n := range []int{9223, 9224, 18446, 18447, 36894} { // 9224 are just above 2^63, 18447 just above 2^64
		l := slices.Repeat([]need.State{state(top, 0)}, n)
		checkTotal(t, 0, api.ErrOver, l...)
	}
	just := slices.Repeat([]need.State{state(top, 0)}, 18446) // with this one in all 2^64 and 5
	checkTotal(t, 0, api.ErrOver, append(just, state(744_073_709_551_621, 0))...)
}

// P17.1, P0.2: one that is not valid is ErrRange, wherever it is, and whatever the others come to.
func TestTotalOfWrongStates(t *testing.T) {
	for _, w := range wrong() {
		checkTotal(t, 0, api.ErrRange, w)
		checkTotal(t, 0, api.ErrRange, w, state(5, 3))
		checkTotal(t, 0, api.ErrRange, state(5, 3), w)
		checkTotal(t, 0, api.ErrRange, state(5, 3), w, state(5, 3))
		checkTotal(t, 0, api.ErrRange, state(top, 0), state(1, 0), w)
		checkTotal(t, 0, api.ErrRange, w, state(top, 0), state(1, 0))
	}
}

// P17.1: for many states, small and great, right and wrong, the answers are what the words say.
func TestAsTheWordsSay(t *testing.T) {
	r := rand.New(rand.NewSource(17))
	for range 5000 {
		most := []int64{3, 20, 1000, top / 4, top}[r.Intn(5)]
		l := make([]need.State, r.Intn(12))
		for i := range l {
			l[i] = state(r.Int63n(most+1), r.Int63n(most+1))
			if r.Intn(40) == 0 {
				l[i] = wrong()[r.Intn(len(wrong()))]
			}
		}
		place, is := toldWorst(l)
		checkWorst(t, place, is, l...)
		total, err := toldTotal(l)
		checkTotal(t, total, err, l...)
	}
}

// lacks is what Have lacks, without bounds, and whether the state is valid.
func lacks(s need.State) (*big.Int, bool) {
	for _, n := range []int64{s.Need, s.Have} {
		if n < 0 || n > top {
			return new(big.Int), false
		}
	}
	if s.Have > s.Need {
		return new(big.Int), true
	}
	return new(big.Int).Sub(big.NewInt(s.Need), big.NewInt(s.Have)), true
}

// toldWorst is what Worst has to answer: the first that no other one lacks more than.
func toldWorst(l []need.State) (int, bool) {
	for i, s := range l {
		short, _ := lacks(s)
		more := func(x need.State) bool {
			other, _ := lacks(x)
			return other.Cmp(short) > 0
		}
		if short.Sign() > 0 && !slices.ContainsFunc(l, more) {
			return i, true
		}
	}
	return 0, false
}

// toldTotal is what Total has to answer.
func toldTotal(l []need.State) (int64, error) {
	sum := new(big.Int)
	for _, s := range l {
		short, ok := lacks(s)
		if !ok {
			return 0, api.ErrRange
		}
		sum.Add(sum, short)
	}
	if sum.Cmp(big.NewInt(top)) > 0 {
		return 0, api.ErrOver
	}
	return sum.Int64(), nil
}

// P0.4: what is handed in is not changed, nor what lies behind it.
func TestListsStay(t *testing.T) {
	l := []need.State{state(5, 3), state(3, 5), state(9, 2), state(-1, 0), state(top, 0), state(top, 0)}
	was := slices.Clone(l)
	checkWorst(t, 2, true, l[:3]...)
	checkTotal(t, 9, nil, l[:3]...)
	checkTotal(t, 0, api.ErrRange, l...)
	checkTotal(t, 0, api.ErrOver, l[4:]...)
	checkTotal(t, 9, nil, l[:3]...)
	if !slices.Equal(l, was) {
		t.Errorf("the states are %v, want %v", l, was)
	}
}
