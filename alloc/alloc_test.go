package alloc_test

import (
	"math"
	"slices"
	"testing"

	"pledge/alloc"
	"pledge/api"
	"pledge/lots"
)

const (
	each = 1_000_000_000     // the greatest Value, and Cost
	top  = 1_000_000_000_000 // the greatest cap, and Need
)

func lot(units int, value, cost int64, group int) api.Lot {
	return api.Lot{Units: units, Value: value, Cost: cost, Group: group}
}

func problem(need int64, caps []int64, l ...api.Lot) lots.Problem {
	return lots.Problem{Lots: l, Caps: caps, Need: need}
}

func free() []int64 { return []int64{0} }

// best asks Best of what can be done, and holds all against the promise that holds at each budget.
func best(t *testing.T, p lots.Problem, budget int) alloc.Result {
	t.Helper()
	r, err := alloc.Best(p, budget)
	if err != nil {
		t.Fatalf("Best(%v, %d): %v", p, budget, err)
	}
	worth, is := lots.Worth(p, r.Take...)
	cost, _ := lots.Cost(p, r.Take...)
	if !is || worth < p.Need || r.Worth != worth || r.Cost != cost {
		t.Fatalf("Best(%v, %d) = %v; its Take is worth %d and costs %d (%v)", p, budget, r, worth, cost, is)
	}
	if r.Looked < 0 || r.Looked > budget || r.Looked > choices(p) || !r.Sure && r.Looked != budget {
		t.Fatalf("Best(%v, %d) = %v", p, budget, r)
	}
	if g, ok := lots.Greedy(p); ok {
		if most, _ := lots.Cost(p, g...); r.Cost > most {
			t.Fatalf("Best(%v, %d) = %v; Greedy's costs %d", p, budget, r, most)
		}
	}
	return r
}

// checkAll holds All, and Best by the greatest budget, against the one choice that is the cheapest.
func checkAll(t *testing.T, p lots.Problem, cost int64, take ...int) {
	t.Helper()
	r := best(t, p, api.MaxBudget)
	if !slices.Equal(r.Take, take) || r.Cost != cost || !r.Sure {
		t.Errorf("Best(%v) = %v, want %v for %d", p, r, take, cost)
	}
	all, err := alloc.All(p)
	if err != nil || !same(all, r) {
		t.Errorf("All(%v) = %v, %v; Best is %v", p, all, err, r)
	}
}

func same(a, b alloc.Result) bool {
	return slices.Equal(a.Take, b.Take) && a.Worth == b.Worth && a.Cost == b.Cost && a.Sure == b.Sure && a.Looked == b.Looked
}

// checkError asks for an error, and nothing beside.
func checkError(t *testing.T, p lots.Problem, budget int, want error) {
	t.Helper()
	if r, err := alloc.Best(p, budget); err != want || r.Take != nil || !same(r, alloc.Result{}) {
		t.Errorf("Best(%v, %d) = %v, %v, want %v", p, budget, r, err, want)
	}
	if budget != api.MaxBudget {
		return
	}
	if r, err := alloc.All(p); err != want || r.Take != nil || !same(r, alloc.Result{}) {
		t.Errorf("All(%v) = %v, %v, want %v", p, r, err, want)
	}
}

// P20.1: the example: where nothing is needed nothing is taken, and it is sure without a look.
func TestNothingNeeded(t *testing.T) {
	for _, l := range [][]api.Lot{
		{lot(5, 3, 2, 0)},
		{lot(5, 3, 0, 0), lot(1, 0, 0, 0)},
		{lot(0, 0, 0, 0)},
		slices.Repeat([]api.Lot{lot(api.MaxUnits, each, 0, 0)}, api.MaxLots),
	} {
		for _, budget := range []int{0, 1, 7, api.MaxBudget} {
			r := best(t, problem(0, free(), l...), budget)
			if !r.Sure || r.Looked != 0 || r.Cost != 0 || r.Worth != 0 || !slices.Equal(r.Take, make([]int, len(l))) {
				t.Errorf("Best(%v, %d) = %v", l, budget, r)
			}
		}
		checkAll(t, problem(0, free(), l...), 0, make([]int, len(l))...)
	}
}

// P20.1: the greedy choice, where it is the cheapest.
func TestGreedyIsCheapest(t *testing.T) {
	checkAll(t, problem(1, free(), lot(1, 1, 1, 0)), 1, 1)
	checkAll(t, problem(7, free(), lot(5, 3, 2, 0)), 6, 3)
	checkAll(t, problem(20, []int64{0, 12}, lot(3, 5, 2, 0), lot(4, 4, 1, 1)), 7, 2, 3)
	checkAll(t, problem(6, free(), lot(2, 3, 3, 0), lot(2, 3, 2, 0), lot(2, 3, 4, 0)), 4, 0, 2, 0)
	checkAll(t, problem(3, free(), lot(1, 1, 5, 0), lot(9, 0, 0, 0), lot(0, 9, 0, 0), lot(2, 1, 4, 0)), 13, 1, 0, 0, 2)
}

// P20.1: what is cheaper than the greedy choice is found.
func TestCheaperThanGreedy(t *testing.T) {
	// What costs least for what it is worth is not enough; what is enough alone is cheaper than both.
	checkAll(t, problem(10, free(), lot(1, 10, 7, 0), lot(1, 6, 3, 0), lot(1, 5, 5, 0)), 7, 1, 0, 0)
	checkAll(t, problem(10, free(), lot(1, 6, 3, 0), lot(1, 10, 7, 0)), 7, 0, 1)
	// Fewer of the cheaper ones, or none, come to just enough.
	checkAll(t, problem(11, free(), lot(5, 4, 40, 0), lot(5, 3, 31, 0)), 111, 2, 1)
	checkAll(t, problem(9, free(), lot(5, 4, 40, 0), lot(5, 3, 31, 0)), 93, 0, 3)
	checkAll(t, problem(11, free(), lot(5, 7, 70, 0), lot(5, 6, 61, 0), lot(5, 5, 52, 0)), 113, 0, 1, 1)
	checkAll(t, problem(9, free(), lot(2, 7, 70, 0), lot(1, 6, 61, 0), lot(1, 3, 32, 0)), 93, 0, 1, 1)
	// One unit comes to far more than is needed.
	checkAll(t, problem(3, free(), lot(1, each, 4, 0), lot(3, 1, 1, 0)), 3, 0, 3)
}

// P20.1: what a group counts at most is held.
func TestCaps(t *testing.T) {
	checkAll(t, problem(10, []int64{4, 0}, lot(9, 2, 1, 0), lot(9, 3, 9, 1)), 20, 2, 2)
	checkAll(t, problem(10, []int64{5, 0}, lot(9, 2, 1, 0), lot(9, 5, 9, 1)), 12, 3, 1)
	checkAll(t, problem(10, []int64{0, 5}, lot(9, 5, 9, 0), lot(9, 2, 1, 1)), 12, 1, 3)
	checkAll(t, problem(5, []int64{5}, lot(2, 4, 4, 0)), 8, 2)
	// The second unit counts but 1 of its 4: two of the other group are cheaper.
	checkAll(t, problem(6, []int64{5, 0}, lot(2, 4, 4, 0), lot(9, 1, 2, 1)), 8, 1, 2)
	// Two lots of one group share its cap.
	checkAll(t, problem(9, []int64{6, 0}, lot(2, 3, 3, 0), lot(2, 3, 4, 0), lot(2, 3, 5, 1)), 11, 2, 0, 1)
}

// P20.1: each cap is come to by two units and a half: what the halves cost is together no more than they are.
func TestHalvesOfUnits(t *testing.T) {
	for groups := 1; groups < api.MaxLots; groups++ {
		p := problem(int64(5*groups+groups%2), make([]int64, groups+1))
		for g := range groups {
			p.Caps[g] = 5
			p.Lots = append(p.Lots, lot(9, 2, 1, g))
		}
		p.Lots = append(p.Lots, lot(9, 2, 1, groups))
		if r := best(t, p, api.MaxBudget); !r.Sure || r.Cost != p.Need/2 {
			t.Errorf("Best(%v) = %v", p, r)
		}
	}
}

// P20.1: what costs nothing is enough: nothing is paid, and no look is needed.
func TestForNothing(t *testing.T) {
	p := problem(9, free(), lot(9, 2, 5, 0), lot(5, 2, 0, 0))
	for _, budget := range []int{0, 1, api.MaxBudget} {
		if r := best(t, p, budget); !r.Sure || r.Looked != 0 || r.Cost != 0 {
			t.Errorf("Best(%v, %d) = %v", p, budget, r)
		}
	}
	checkAll(t, p, 0, 0, 5)
	checkAll(t, problem(11, free(), lot(9, 2, 5, 0), lot(5, 2, 0, 0)), 5, 1, 5)
}

// P20.1: all is taken, where no less is enough; of what is needed one more can't be done.
func TestNothingCan(t *testing.T) {
	for _, x := range []struct {
		most int64
		caps []int64
		lots []api.Lot
	}{
		{0, free(), []api.Lot{lot(0, 1, 1, 0)}},
		{0, free(), []api.Lot{lot(api.MaxUnits, 0, 1, 0)}},
		{6, free(), []api.Lot{lot(2, 3, 1, 0)}},
		{4, []int64{4}, []api.Lot{lot(2, 3, 1, 0)}},
		{31, free(), []api.Lot{lot(2, 3, 1, 0), lot(5, 5, 9, 0)}},
		{9, []int64{4, 0, 5, 1}, []api.Lot{lot(2, 3, 1, 0), lot(5, 5, 9, 2), lot(5, 5, 9, 2)}},
		{top - 1, []int64{top - 1}, []api.Lot{lot(api.MaxUnits, each, each, 0)}},
	} {
		for _, budget := range []int{0, 1, 100, api.MaxBudget} {
			checkError(t, problem(x.most+1, x.caps, x.lots...), budget, api.ErrNothing)
			checkError(t, problem(top, x.caps, x.lots...), budget, api.ErrNothing)
			if r := best(t, problem(x.most, x.caps, x.lots...), budget); r.Worth != x.most {
				t.Errorf("Best(%v, %d) = %v", x, budget, r)
			}
		}
	}
	checkAll(t, problem(6, free(), lot(2, 3, 1, 0)), 2, 2)
	checkAll(t, problem(31, free(), lot(2, 3, 1, 0), lot(5, 5, 9, 0)), 47, 2, 5)
}

// P20.1: a budget is 0 to MaxBudget.
func TestBudget(t *testing.T) {
	p := problem(5, free(), lot(5, 3, 2, 0))
	for _, n := range []int{math.MinInt, -1 << 32, -api.MaxBudget, -2, -1, api.MaxBudget + 1, api.MaxBudget + 2, 1 << 32, math.MaxInt} {
		checkError(t, p, n, api.ErrRange)
		checkError(t, problem(0, free(), lot(5, 3, 2, 0)), n, api.ErrRange)
	}
	for _, n := range []int{0, 1, 2, api.MaxBudget - 1, api.MaxBudget} {
		best(t, p, n)
	}
}

// P20.1: of a problem that is not valid the answer is lots.Valid's.
func TestNotValid(t *testing.T) {
	right := lot(5, 5, 4, 0)
	for _, l := range []api.Lot{lot(-1, 5, 4, 0), lot(api.MaxUnits+1, 5, 4, 0), lot(5, -1, 4, 0), lot(5, each+1, 4, 0), lot(5, 5, -1, 0), lot(5, 5, each+1, 0), lot(5, 5, 4, -1), lot(5, 5, 4, 1), lot(math.MinInt64, math.MinInt64, math.MinInt64, math.MinInt64), lot(math.MaxInt64, math.MaxInt64, math.MaxInt64, math.MaxInt64)} {
		checkError(t, problem(1, free(), l), api.MaxBudget, api.ErrRange)
		checkError(t, problem(1, free(), right, l), 0, api.ErrRange)
		checkError(t, problem(0, free(), l, right), api.MaxBudget, api.ErrRange)
	}
	for _, n := range []int64{math.MinInt64, -1, top + 1, math.MaxInt64} {
		checkError(t, problem(n, free(), right), api.MaxBudget, api.ErrRange)
		checkError(t, problem(1, []int64{0, n}, right), api.MaxBudget, api.ErrRange)
	}
	checkError(t, lots.Problem{}, api.MaxBudget, api.ErrMany)
	checkError(t, problem(0, free()), api.MaxBudget, api.ErrMany)
	checkError(t, problem(0, nil, right), api.MaxBudget, api.ErrMany)
	checkError(t, problem(0, []int64{}, right), 0, api.ErrMany)
	checkError(t, problem(0, make([]int64, api.MaxLots+1), right), api.MaxBudget, api.ErrMany)
	checkError(t, problem(0, free(), slices.Repeat([]api.Lot{right}, api.MaxLots+1)...), api.MaxBudget, api.ErrMany)
}

// P20.1, P0.2: the problem is asked first, then the budget, then whether it can be done.
func TestErrorsInOrder(t *testing.T) {
	right := lot(5, 5, 4, 0)
	for _, n := range []int{-1, api.MaxBudget + 1} {
		checkError(t, lots.Problem{Need: top}, n, api.ErrMany)
		checkError(t, problem(-1, free()), n, api.ErrMany)
		checkError(t, problem(top, free(), right), n, api.ErrRange)
	}
	checkError(t, problem(top, free(), right, lot(5, 5, 4, 1)), 5, api.ErrRange)
	checkError(t, problem(top+1, free(), right), 5, api.ErrRange)
}

// P20.1: the greatest numbers that there may be.
func TestGreatNumbers(t *testing.T) {
	full := lot(api.MaxUnits, each, each, 0)
	checkAll(t, problem(top, free(), full), top, api.MaxUnits)
	checkAll(t, problem(top, []int64{top}, full), top, api.MaxUnits)
	checkAll(t, problem(top-1, free(), full), top, api.MaxUnits)
	checkAll(t, problem(top-each, free(), full), top-each, api.MaxUnits-1)
	var l []api.Lot
	for g := range api.MaxLots {
		l = append(l, lot(api.MaxUnits, 1, each, g))
	}
	all := slices.Repeat([]int{api.MaxUnits}, api.MaxLots)
	checkAll(t, problem(8*api.MaxUnits, make([]int64, api.MaxLots), l...), 8*top, all...)
	checkAll(t, problem(8*api.MaxUnits, slices.Repeat([]int64{api.MaxUnits}, api.MaxLots), l...), 8*top, all...)
	eighth := slices.Repeat([]int64{top / 8}, api.MaxLots)
	for g := range l {
		l[g] = lot(api.MaxUnits, each, each, g)
	}
	checkAll(t, problem(top, eighth, l...), top, slices.Repeat([]int{api.MaxUnits / 8}, api.MaxLots)...)
	// Rates that floats don't tell apart.
	checkAll(t, problem(1, free(), lot(1, each-1, each-2, 0), lot(1, each, each-1, 0)), each-2, 1, 0)
	checkAll(t, problem(2*each-2, free(), lot(2, each, each-1, 0), lot(2, each-1, each-2, 0)), 2*each-4, 0, 2)
}

// P0.4: what is handed in is not changed, nor what lies behind it read, nor any of it kept; a Take is its caller's alone.
func TestProblemStays(t *testing.T) {
	l := []api.Lot{lot(5, 4, 40, 0), lot(5, 3, 31, 1), lot(-7, -7, -7, -7)}
	caps := []int64{0, 90, -1}
	wasLots, wasCaps := slices.Clone(l), slices.Clone(caps)
	p := lots.Problem{Lots: l[:2], Caps: caps[:2], Need: 11}
	first := best(t, p, api.MaxBudget)
	checkAll(t, p, 111, 2, 1)
	if !slices.Equal(l, wasLots) || !slices.Equal(caps, wasCaps) {
		t.Errorf("%v, %v are changed", l, caps)
	}
	clear(append(first.Take, 9, 9, 9)[:5])
	clear(first.Take)
	checkAll(t, p, 111, 2, 1)
	l[0].Cost = 50
	checkAll(t, p, 124, 0, 4)
}
