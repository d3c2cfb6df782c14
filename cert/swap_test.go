package cert_test

import (
	"math"
	"slices"
	"testing"

	"pledge/api"
	"pledge/cert"
	"pledge/lots"
)

func checkSwap(t *testing.T, p lots.Problem, want []int, take ...int) {
	t.Helper()
	if got, ok := cert.Swap(p, take...); !slices.Equal(got, want) || ok != (want != nil) || !ok && got != nil {
		t.Errorf("Swap(%v, %v) = %v, %v, want %v", p, take, got, ok, want)
	}
}

// P21.1: the example: of what is just enough nothing can be spared.
func TestSwapJustEnough(t *testing.T) {
	checkSwap(t, usual(10), nil, 2, 0)
	checkSwap(t, usual(10), nil, 1, 2)
	checkSwap(t, usual(21), nil, 3, 2)
	checkSwap(t, problem(1, free(), lot(1, 1, 1, 0)), nil, 1)
	checkSwap(t, problem(21, []int64{6, 0}, lot(4, 3, 1, 0), lot(3, 5, 3, 1)), nil, 2, 3)
	// A unit less of each of them is too little by one.
	checkSwap(t, problem(6, free(), lot(1, 3, 3, 0), lot(2, 2, 2, 0)), nil, 1, 2)
}

// P21.1: one less, of one lot, where as much as is needed stays, just or by more.
func TestSwapOneLess(t *testing.T) {
	checkSwap(t, usual(10), []int{2, 0}, 3, 0)
	checkSwap(t, usual(5), []int{2, 0}, 3, 0)
	checkSwap(t, usual(10), []int{2, 4}, 3, 4)
	checkSwap(t, problem(2, free(), lot(9, 1, 1, 0)), []int{2}, 3)
	checkSwap(t, problem(2, free(), lot(9, 1, 1, 0)), []int{8}, 9)
	// It is the first that can spare one: not the dearest, nor the one that spares most, nor the last.
	checkSwap(t, problem(2, free(), lot(9, 1, 1, 0), lot(9, 1, 9, 0), lot(9, 2, 5, 0)), []int{0, 1, 1}, 1, 1, 1)
	checkSwap(t, problem(3, free(), lot(9, 1, 0, 0), lot(9, 1, 9, 0)), []int{1, 2}, 2, 2)
}

// P21.1: a lot of which none can be spared, or none is taken, is passed over, and stays as it is.
func TestSwapPassesOver(t *testing.T) {
	checkSwap(t, usual(10), []int{2, 0}, 2, 1)
	checkSwap(t, usual(10), []int{1, 2}, 1, 3)
	checkSwap(t, usual(6), []int{0, 3}, 0, 4)
	checkSwap(t, problem(7, free(), lot(2, 5, 1, 0), lot(2, 5, 1, 0), lot(3, 1, 1, 0)), []int{1, 0, 2}, 1, 0, 3)
	eight := slices.Repeat([]api.Lot{lot(1, 2, 1, 0)}, api.MaxLots-1)
	eight = append(eight, lot(1, 1, 1, 0))
	checkSwap(t, problem(14, free(), eight...), []int{1, 1, 1, 1, 1, 1, 1, 0}, 1, 1, 1, 1, 1, 1, 1, 1)
	checkSwap(t, problem(15, free(), eight...), nil, 1, 1, 1, 1, 1, 1, 1, 1)
}

// P21.1: what counts nothing can always be spared: without a Value, or above its group's cap; it costs no more without it, though it cost nothing.
func TestSwapWhatCountsNothing(t *testing.T) {
	checkSwap(t, problem(5, free(), lot(1, 5, 3, 0), lot(9, 0, 0, 0)), []int{1, 1}, 1, 2)
	checkSwap(t, problem(5, free(), lot(1, 5, 3, 0), lot(9, 0, 7, 0)), []int{1, 0}, 1, 1)
	checkSwap(t, problem(5, []int64{5}, lot(2, 5, 3, 0), lot(9, 5, 0, 0)), []int{0, 1}, 1, 1)
	checkSwap(t, problem(5, []int64{5}, lot(2, 3, 3, 0)), nil, 2)
	checkSwap(t, problem(5, []int64{5}, lot(3, 3, 3, 0)), []int{2}, 3)
}

// P21.1: where nothing is needed all can be spared, but of nothing.
func TestSwapNothingNeeded(t *testing.T) {
	checkSwap(t, usual(0), nil, 0, 0)
	checkSwap(t, usual(0), []int{0, 0}, 1, 0)
	checkSwap(t, usual(0), []int{0, 0}, 0, 1)
	checkSwap(t, usual(0), []int{0, 1}, 1, 1)
}

// P21.1: false, if it does not fit, as too little, or as no Take at all, though it would fit with one less.
func TestSwapNotFitting(t *testing.T) {
	checkSwap(t, usual(10), nil, 1, 1)
	checkSwap(t, usual(10), nil, 0, 4)
	checkSwap(t, usual(22), nil, 3, 4)
	for _, need := range []int64{0, 10} {
		p := usual(need)
		checkSwap(t, p, nil, 4, 0)
		checkSwap(t, p, nil, 4, 4)
		checkSwap(t, p, nil, 3, 5)
		checkSwap(t, p, nil, -1, 4)
		checkSwap(t, p, nil, 3, -1)
		checkSwap(t, p, nil)
		checkSwap(t, p, nil, 3)
		checkSwap(t, p, nil, 3, 4, 0)
		for _, n := range []int{math.MinInt, math.MaxInt, 1 << 32} {
			checkSwap(t, p, nil, n, 4)
			checkSwap(t, p, nil, 3, n)
		}
	}
}

// P21.1: of a problem that is not valid nothing fits.
func TestSwapProblemNotValid(t *testing.T) {
	for _, x := range wrongProblems() {
		for _, take := range someTakes() {
			checkSwap(t, x.p, nil, take...)
		}
		checkSwap(t, x.p, nil, 3, 4)
		checkSwap(t, x.p, nil, 5)
	}
}

// P21.1: the greatest numbers that there may be.
func TestSwapGreatNumbers(t *testing.T) {
	full := lot(api.MaxUnits, each, each, 0)
	checkSwap(t, problem(top, free(), full), nil, api.MaxUnits)
	checkSwap(t, problem(top-each, free(), full), []int{api.MaxUnits - 1}, api.MaxUnits)
	checkSwap(t, problem(top-each+1, free(), full), nil, api.MaxUnits)
	all := slices.Repeat([]int{api.MaxUnits}, api.MaxLots)
	less := slices.Clone(all)
	less[0]--
	checkSwap(t, problem(top, []int64{top}, slices.Repeat([]api.Lot{full}, api.MaxLots)...), less, all...)
}

// P21.1: again and again, it ends just where no lot can spare any.
func TestSwapToTheEnd(t *testing.T) {
	p := problem(11, []int64{0, 6}, lot(3, 5, 3, 0), lot(4, 3, 1, 1), lot(2, 1, 9, 0))
	want := [][]int{{2, 4, 2}, {1, 4, 2}, {1, 3, 2}, {1, 2, 2}, {1, 2, 1}, {1, 2, 0}}
	take := []int{3, 4, 2}
	for _, w := range want {
		got, ok := cert.Swap(p, take...)
		if !slices.Equal(got, w) || !ok {
			t.Fatalf("Swap(%v) = %v, %v, want %v", take, got, ok, w)
		}
		take = got
	}
	checkSwap(t, p, nil, take...)
}

// P0.4: what is handed out is new memory, spare room too: whatever is written there changes neither what was handed in, nor another answer.
func TestSwapIsNew(t *testing.T) {
	p := usual(5)
	take := []int{3, 4, 7, 7}
	first, _ := cert.Swap(p, take[:2]...)
	second, _ := cert.Swap(p, take[:2]...)
	if cap(first) > 2 {
		clear(first[:cap(first)])
	}
	first = append(first[:0], 9, 9, 9, 9)
	if !slices.Equal(take, []int{3, 4, 7, 7}) || !slices.Equal(second, []int{2, 4}) || len(first) != 4 {
		t.Errorf("%v, %v", take, second)
	}
	take[0] = 1
	checkSwap(t, p, []int{2, 4}, 3, 4)
	if !slices.Equal(second, []int{2, 4}) {
		t.Errorf("%v", second)
	}
}
