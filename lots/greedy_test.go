package lots_test

import (
	"math/big"
	"slices"
	"testing"

	"pledge/api"
	"pledge/lots"
)

func checkGreedy(t *testing.T, p lots.Problem, want []int, is bool) {
	t.Helper()
	if got, ok := lots.Greedy(p); !slices.Equal(got, want) || ok != is {
		t.Errorf("Greedy(%v) = %v, %v, want %v, %v", p, got, ok, want, is)
	}
}

// P18.2: the example: where nothing is needed nothing is taken, one number for each lot.
func TestGreedyWithoutNeed(t *testing.T) {
	checkGreedy(t, problem(0, free(), lot(5, 5, 1, 0)), []int{0}, true)
	checkGreedy(t, problem(0, free(), lot(5, 5, 0, 0), lot(5, 5, 0, 0)), []int{0, 0}, true)
	checkGreedy(t, problem(0, []int64{3, 3}, lot(0, 0, 0, 1), lot(5, 5, 0, 0), lot(5, 0, 0, 0)), []int{0, 0, 0}, true)
	checkGreedy(t, problem(0, free(), make([]api.Lot, api.MaxLots)...), make([]int, api.MaxLots), true)
}

// P18.2: no more units are taken than are needed.
func TestGreedyUnits(t *testing.T) {
	for need, want := range map[int64]int{1: 1, 4: 1, 5: 1, 6: 2, 9: 2, 10: 2, 11: 3, 14: 3, 15: 3} {
		checkGreedy(t, problem(need, free(), lot(3, 5, 2, 0)), []int{want}, true)
	}
	checkGreedy(t, problem(api.MaxUnits, free(), lot(api.MaxUnits, 1, 1, 0)), []int{api.MaxUnits}, true)
	checkGreedy(t, problem(api.MaxUnits-1, free(), lot(api.MaxUnits, 1, 1, 0)), []int{api.MaxUnits - 1}, true)
}

// P18.2: what costs less for what it is worth is taken first, though it costs more a unit, or stands behind.
func TestGreedyOrder(t *testing.T) {
	checkGreedy(t, problem(11, free(), lot(5, 5, 5, 0), lot(5, 5, 4, 0)), []int{0, 3}, true)
	checkGreedy(t, problem(11, free(), lot(5, 5, 4, 0), lot(5, 5, 5, 0)), []int{3, 0}, true)
	checkGreedy(t, problem(11, free(), lot(20, 1, 1, 0), lot(2, 10, 9, 0)), []int{0, 2}, true)
	checkGreedy(t, problem(12, free(), lot(20, 1, 2, 0), lot(1, 10, 11, 0)), []int{2, 1}, true)
	checkGreedy(t, problem(6, free(), lot(2, 3, 2, 0), lot(2, 2, 1, 0), lot(2, 1, 0, 0)), []int{0, 2, 2}, true)
	checkGreedy(t, problem(7, free(), lot(2, 3, 2, 0), lot(2, 2, 1, 0), lot(2, 1, 0, 0)), []int{1, 2, 2}, true)
	checkGreedy(t, problem(9, free(), lot(1, 3, 3, 0), lot(1, 3, 1, 0), lot(1, 3, 4, 0), lot(1, 3, 2, 0), lot(1, 3, 0, 0)), []int{0, 1, 0, 1, 1}, true)
}

// P18.2: the last unit may be worth more than lacks; nothing that is too much is given back.
func TestGreedyTakesNothingBack(t *testing.T) {
	checkGreedy(t, problem(10, free(), lot(3, 3, 1, 0), lot(1, 10, 9, 0)), []int{3, 1}, true)
	checkGreedy(t, problem(4, free(), lot(1, 3, 1, 0), lot(1, each, each, 0)), []int{1, 1}, true)
}

// P18.2, P0.7: of those that cost as much for what they are worth the first is taken.
func TestGreedyFirstOfEqual(t *testing.T) {
	checkGreedy(t, problem(7, free(), lot(5, 5, 4, 0), lot(5, 5, 4, 0)), []int{2, 0}, true)
	checkGreedy(t, problem(7, free(), lot(5, 1, 2, 0), lot(5, 2, 4, 0), lot(5, 3, 6, 0)), []int{5, 1, 0}, true)
	checkGreedy(t, problem(7, free(), lot(5, 3, 6, 0), lot(5, 2, 4, 0), lot(5, 1, 2, 0)), []int{3, 0, 0}, true)
	checkGreedy(t, problem(7, free(), lot(5, 1, 0, 0), lot(5, each, 0, 0), lot(5, 5, 0, 0)), []int{5, 1, 0}, true)
	l := slices.Repeat([]api.Lot{lot(2, 3, 5, 0)}, api.MaxLots)
	checkGreedy(t, problem(21, free(), l...), []int{2, 2, 2, 1, 0, 0, 0, 0}, true)
	l[6].Cost = 4
	checkGreedy(t, problem(21, free(), l...), []int{2, 2, 1, 0, 0, 0, 2, 0}, true)
}

// P18.2: rates that differ by less than floats tell, or than a whole number, are told apart.
func TestGreedyNearRates(t *testing.T) {
	dear, cheap := lot(1, each-1, each, 0), lot(1, each, each, 0)
	checkGreedy(t, problem(1, free(), dear, cheap), []int{0, 1}, true)
	dear, cheap = lot(1, each-2, each-1, 0), lot(1, each-1, each, 0)
	checkGreedy(t, problem(1, free(), dear, cheap), []int{0, 1}, true)
	checkGreedy(t, problem(1, free(), cheap, dear), []int{1, 0}, true)
	dear, cheap = lot(1, each, each-1, 0), lot(1, each-1, each-2, 0)
	checkGreedy(t, problem(1, free(), dear, cheap), []int{0, 1}, true)
	checkGreedy(t, problem(1, free(), lot(1, 1, each, 0), lot(1, each, 1, 0), lot(1, each, 0, 0)), []int{0, 0, 1}, true)
}

// P18.2: one without a Value is last, whatever it costs, never taken, and leaves the order of the others as it is.
func TestGreedyWithoutValue(t *testing.T) {
	checkGreedy(t, problem(11, free(), lot(5, 0, 0, 0), lot(5, 5, 4, 0)), []int{0, 3}, true)
	checkGreedy(t, problem(11, free(), lot(5, 0, 9, 0), lot(5, 5, 4, 0), lot(5, 0, 0, 0)), []int{0, 3, 0}, true)
	for _, nothing := range []api.Lot{lot(5, 0, 0, 0), lot(5, 0, 1, 0), lot(0, 0, 0, 0), lot(5, 0, each, 0)} {
		p := problem(11, free(), lot(5, 5, 5, 0), nothing, lot(5, 5, 4, 0), nothing, lot(5, 5, 3, 0))
		checkGreedy(t, p, []int{0, 0, 0, 0, 3}, true)
		p = problem(11, free(), nothing, lot(1, 5, 5, 0), nothing, lot(1, 5, 3, 0), lot(1, 5, 4, 0), lot(9, 5, 6, 0))
		checkGreedy(t, p, []int{0, 1, 0, 1, 1, 0}, true)
		checkGreedy(t, problem(0, free(), nothing), []int{0}, true)
		checkGreedy(t, problem(1, free(), nothing, nothing), nil, false)
	}
}

// P18.2: one without Units is passed over.
func TestGreedyWithoutUnits(t *testing.T) {
	checkGreedy(t, problem(11, free(), lot(0, 50, 1, 0), lot(5, 5, 4, 0)), []int{0, 3}, true)
	checkGreedy(t, problem(1, free(), lot(0, 50, 1, 0)), nil, false)
}

// P18.2: what a full group would not make worth more is not taken; the dearer ones of others are.
func TestGreedyFullGroups(t *testing.T) {
	checkGreedy(t, problem(30, []int64{8, 0}, lot(5, 5, 1, 0), lot(9, 3, 3, 1)), []int{2, 8}, true)
	checkGreedy(t, problem(30, []int64{10, 0}, lot(5, 5, 1, 0), lot(9, 3, 3, 1)), []int{2, 7}, true)
	checkGreedy(t, problem(30, []int64{11, 0}, lot(5, 5, 1, 0), lot(9, 3, 3, 1)), []int{3, 7}, true)
	checkGreedy(t, problem(9, []int64{8, 0}, lot(5, 5, 1, 0), lot(5, 5, 2, 0), lot(9, 3, 3, 1)), []int{2, 0, 1}, true)
	checkGreedy(t, problem(12, []int64{8, 0}, lot(1, 5, 1, 0), lot(5, 5, 2, 0), lot(9, 3, 3, 1)), []int{1, 1, 2}, true)
	checkGreedy(t, problem(12, []int64{0, 8}, lot(9, 3, 3, 0), lot(5, 5, 2, 1), lot(1, 5, 1, 1)), []int{2, 1, 1}, true)
	checkGreedy(t, problem(9, []int64{1, 7, 1}, lot(9, 9, 1, 0), lot(9, 2, 3, 1), lot(9, 9, 2, 2)), []int{1, 4, 1}, true)
}

// P18.2, P0.3: false, and no list, if all there is comes to less than Need.
func TestGreedyFallsShort(t *testing.T) {
	checkGreedy(t, problem(25, free(), lot(5, 5, 1, 0)), []int{5}, true)
	checkGreedy(t, problem(26, free(), lot(5, 5, 1, 0)), nil, false)
	checkGreedy(t, problem(8, []int64{8}, lot(5, 5, 1, 0), lot(5, 5, 1, 0)), []int{2, 0}, true)
	checkGreedy(t, problem(9, []int64{8}, lot(5, 5, 1, 0), lot(5, 5, 1, 0)), nil, false)
	checkGreedy(t, problem(11, []int64{8, 3}, lot(5, 5, 1, 0), lot(5, 5, 1, 1)), []int{2, 1}, true)
	checkGreedy(t, problem(12, []int64{8, 3}, lot(5, 5, 1, 0), lot(5, 5, 1, 1)), nil, false)
	checkGreedy(t, problem(top, free(), lot(api.MaxUnits, each-1, 1, 0)), nil, false)
	if got, _ := lots.Greedy(problem(26, free(), lot(5, 5, 1, 0))); len(got) != 0 {
		t.Errorf("beside a false there is %v", got)
	}
}

// P18.2, P0.6: with the greatest numbers too.
func TestGreedyGreatest(t *testing.T) {
	full := lot(api.MaxUnits, each, each, 0)
	checkGreedy(t, problem(top, free(), full), []int{api.MaxUnits}, true)
	checkGreedy(t, problem(top, []int64{top}, full), []int{api.MaxUnits}, true)
	checkGreedy(t, problem(top, []int64{top - 1}, full), nil, false)
	checkGreedy(t, problem(top, free(), slices.Repeat([]api.Lot{full}, 8)...), []int{api.MaxUnits, 0, 0, 0, 0, 0, 0, 0}, true)
	one := slices.Repeat([]api.Lot{lot(api.MaxUnits, 1, each, 0)}, 8)
	checkGreedy(t, problem(7999, free(), one...), []int{1000, 1000, 1000, 1000, 1000, 1000, 1000, 999}, true)
	checkGreedy(t, problem(8001, free(), one...), nil, false)
}

// toldGreedy is what Greedy has to answer: again and again the cheapest lot that was not gone through yet.
func toldGreedy(p lots.Problem) ([]int, bool) {
	take := make([]int, len(p.Lots))
	through := make([]bool, len(p.Lots))
	for range p.Lots {
		next := -1
		for i, l := range p.Lots {
			if !through[i] && (next < 0 || cheaper(l, p.Lots[next])) {
				next = i
			}
		}
		through[next] = true
		for range p.Lots[next].Units {
			has, _ := told(p, take)
			take[next]++
			if more, _ := told(p, take); has >= p.Need || more == has {
				take[next]--
			}
		}
	}
	if has, _ := told(p, take); has < p.Need {
		return nil, false
	}
	return take, true
}

// cheaper: a costs less for what it is worth than b, or only b is without a Value.
func cheaper(a, b api.Lot) bool {
	if a.Value == 0 || b.Value == 0 {
		return a.Value != 0
	}
	return big.NewRat(a.Cost, a.Value).Cmp(big.NewRat(b.Cost, b.Value)) < 0
}

// P0.4: each answer is new memory.
func TestGreedyAnswersNewMemory(t *testing.T) {
	p := problem(11, free(), lot(5, 5, 5, 0), lot(5, 5, 4, 0))
	first, _ := lots.Greedy(p)
	second, _ := lots.Greedy(p)
	first = first[:cap(first)] // spare room too
	for i := range first {
		first[i] = 77
	}
	if !slices.Equal(second, []int{0, 3}) {
		t.Errorf("the second answer is %v", second)
	}
	checkGreedy(t, p, []int{0, 3}, true)
}
