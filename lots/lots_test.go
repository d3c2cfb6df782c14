package lots_test

import (
	"math"
	"math/big"
	"math/rand"
	"slices"
	"testing"

	"pledge/api"
	"pledge/lots"
)

const (
	each = 1_000_000_000     // the greatest Value, and Cost
	top  = 1_000_000_000_000 // the greatest cap, and Need
)

func lot(units int, value, cost int64, group int) api.Lot {
	return api.Lot{Units: units, Value: value, Cost: cost, Group: group}
}

func problem(need int64, caps []int64, l ...api.Lot) lots.Problem {
	return lots.Problem{Lots: l, Caps: caps, Need: need}
}

func free() []int64 { return []int64{0} }

func checkValid(t *testing.T, p lots.Problem, want error) {
	t.Helper()
	if got := lots.Valid(p); got != want {
		t.Errorf("Valid(%v) = %v, want %v", p, got, want)
	}
}

// check asks all calls that are of what is taken; worth and cost are 0, if it can't be.
func check(t *testing.T, p lots.Problem, worth, cost int64, is bool, take ...int) {
	t.Helper()
	if got, ok := lots.Worth(p, take...); got != worth || ok != is {
		t.Errorf("Worth(%v, %v) = %d, %v, want %d, %v", p, take, got, ok, worth, is)
	}
	if got, ok := lots.Cost(p, take...); got != cost || ok != is {
		t.Errorf("Cost(%v, %v) = %d, %v, want %d, %v", p, take, got, ok, cost, is)
	}
	if got := lots.Fits(p, take...); got != (is && worth >= p.Need) {
		t.Errorf("Fits(%v, %v) = %v", p, take, got)
	}
}

func checkMost(t *testing.T, p lots.Problem, want int64) {
	t.Helper()
	if got := lots.Most(p); got != want {
		t.Errorf("Most(%v) = %d, want %d", p, got, want)
	}
}

// checkNothing asks all calls of a problem that is not valid.
func checkNothing(t *testing.T, p lots.Problem, want error) {
	t.Helper()
	checkValid(t, p, want)
	check(t, p, 0, 0, false)
	check(t, p, 0, 0, false, make([]int, len(p.Lots))...)
	check(t, p, 0, 0, false, slices.Repeat([]int{1}, len(p.Lots))...)
	checkMost(t, p, 0)
	checkGreedy(t, p, nil, false)
}

// P18.1: from the least to the greatest all numbers are valid, and as many lots and caps as there may be.
func TestValid(t *testing.T) {
	checkValid(t, problem(0, free(), api.Lot{}), nil)
	checkValid(t, problem(5, free(), lot(1, 2, 3, 0)), nil)
	checkValid(t, problem(top, []int64{top}, lot(api.MaxUnits, each, each, 0)), nil)
	checkValid(t, problem(0, make([]int64, api.MaxLots), make([]api.Lot, api.MaxLots)...), nil)
	checkValid(t, problem(0, make([]int64, api.MaxLots), api.Lot{}), nil)
	checkValid(t, problem(0, free(), make([]api.Lot, api.MaxLots)...), nil)
	for groups := 1; groups <= api.MaxLots; groups++ {
		caps := slices.Repeat([]int64{top}, groups)
		checkValid(t, problem(top, caps, lot(api.MaxUnits, each, each, groups-1)), nil)
		checkValid(t, problem(0, caps, api.Lot{}, lot(0, each, 0, groups-1)), nil)
	}
}

// P18.1: none, or too many, of lots or caps is ErrMany, and then there is nothing.
func TestMany(t *testing.T) {
	one := lot(1, 1, 1, 0)
	checkNothing(t, lots.Problem{}, api.ErrMany)
	checkNothing(t, problem(0, free()), api.ErrMany)
	checkNothing(t, problem(0, []int64{}, one), api.ErrMany)
	checkNothing(t, problem(0, nil, one), api.ErrMany)
	for _, n := range []int{api.MaxLots + 1, api.MaxLots + 2, 256, 1 << 16, 1<<16 + 1} {
		checkNothing(t, problem(0, free(), slices.Repeat([]api.Lot{one}, n)...), api.ErrMany)
		checkNothing(t, problem(0, make([]int64, n), one), api.ErrMany)
		checkNothing(t, problem(0, make([]int64, n), slices.Repeat([]api.Lot{one}, n)...), api.ErrMany)
	}
}

// P18.1, P0.2: ErrMany is named first, whatever else is wrong.
func TestManyAheadOfRange(t *testing.T) {
	wrong := lot(-1, -1, -1, -1)
	checkNothing(t, problem(-1, []int64{-1}), api.ErrMany)
	checkNothing(t, problem(-1, nil, wrong), api.ErrMany)
	checkNothing(t, problem(-1, []int64{-1}, slices.Repeat([]api.Lot{wrong}, api.MaxLots+1)...), api.ErrMany)
	checkNothing(t, problem(-1, slices.Repeat([]int64{-1}, api.MaxLots+1), wrong), api.ErrMany)
}

// outside are numbers that are not 0 to most.
func outside(most int64) []int64 {
	return []int64{math.MinInt64, math.MinInt64 + 1, -1 << 32, -most - 1, -2, -1, most + 1, most + 2, 2*most + 2, most + 1<<32, 1 << 53, math.MaxInt64 - 1, math.MaxInt64}
}

// P18.1: a number out of its range, of whichever lot, is ErrRange, and then there is nothing.
func TestWrongLots(t *testing.T) {
	var wrong []api.Lot
	for _, n := range outside(api.MaxUnits) {
		wrong = append(wrong, lot(int(n), 1, 1, 0))
	}
	for _, n := range outside(each) {
		wrong = append(wrong, lot(1, n, 1, 0), lot(1, 1, n, 0), lot(0, n, 0, 0), lot(0, 0, n, 0))
	}
	for _, n := range outside(1) {
		wrong = append(wrong, lot(1, 1, 1, int(n)), lot(0, 0, 0, int(n)))
	}
	for _, w := range wrong {
		right := lot(1, 1, 1, 1)
		checkNothing(t, problem(0, []int64{0, 5}, w), api.ErrRange)
		checkNothing(t, problem(0, []int64{0, 5}, w, right), api.ErrRange)
		checkNothing(t, problem(0, []int64{0, 5}, right, w), api.ErrRange)
		l := slices.Repeat([]api.Lot{right}, api.MaxLots)
		l[5] = w
		checkNothing(t, problem(0, []int64{0, 5}, l...), api.ErrRange)
	}
}

// P18.1: a group is a place of Caps, however many there are.
func TestWrongGroups(t *testing.T) {
	for groups := 1; groups <= api.MaxLots; groups++ {
		caps := make([]int64, groups, api.MaxLots)
		checkNothing(t, problem(0, caps, lot(1, 1, 1, groups)), api.ErrRange)
		checkNothing(t, problem(0, caps, lot(1, 1, 1, -1)), api.ErrRange)
		checkNothing(t, problem(0, caps, api.Lot{}, lot(0, 0, 0, groups)), api.ErrRange)
	}
}

// P18.1: so is a cap, wherever it stands and whether or not a lot is of it, and Need.
func TestWrongCapsAndNeeds(t *testing.T) {
	for _, n := range outside(top) {
		checkNothing(t, problem(n, free(), lot(1, 1, 1, 0)), api.ErrRange)
		checkNothing(t, problem(0, []int64{n}, lot(1, 1, 1, 0)), api.ErrRange)
		for g := range api.MaxLots {
			caps := make([]int64, api.MaxLots)
			caps[g] = n
			checkNothing(t, problem(0, caps, lot(1, 1, 1, 0), lot(1, 1, 1, 7)), api.ErrRange)
		}
	}
}

// P18.1: what is taken is worth and costs so much a unit, in all.
func TestTaken(t *testing.T) {
	check(t, problem(0, free(), lot(3, 5, 2, 0)), 0, 0, true, 0)
	check(t, problem(0, free(), lot(3, 5, 2, 0)), 5, 2, true, 1)
	check(t, problem(0, free(), lot(3, 5, 2, 0)), 15, 6, true, 3)
	check(t, problem(0, free(), lot(0, 5, 2, 0)), 0, 0, true, 0)
	check(t, problem(0, free(), api.Lot{}), 0, 0, true, 0)
	p := problem(20, []int64{0, 0, 0}, lot(3, 5, 2, 2), lot(4, 4, 0, 0), lot(2, 0, 9, 2))
	check(t, p, 0, 0, true, 0, 0, 0)
	check(t, p, 5, 2, true, 1, 0, 0)
	check(t, p, 4, 0, true, 0, 1, 0)
	check(t, p, 0, 9, true, 0, 0, 1)
	check(t, p, 19, 15, true, 3, 1, 1)
	check(t, p, 31, 24, true, 3, 4, 2)
	checkMost(t, p, 31)
}

// P18.1: a group counts its cap at most, all its lots together; the cost is of all that is taken.
func TestCaps(t *testing.T) {
	p := problem(15, []int64{12, 0, 7}, lot(3, 5, 2, 0), lot(4, 4, 1, 0), lot(9, 8, 3, 2), lot(9, 6, 4, 1))
	check(t, p, 10, 4, true, 2, 0, 0, 0)
	check(t, p, 12, 6, true, 3, 0, 0, 0)
	check(t, p, 12, 3, true, 0, 3, 0, 0)
	check(t, p, 12, 4, true, 0, 4, 0, 0)
	check(t, p, 9, 3, true, 1, 1, 0, 0)
	check(t, p, 12, 4, true, 1, 2, 0, 0)
	check(t, p, 7, 3, true, 0, 0, 1, 0)
	check(t, p, 7, 27, true, 0, 0, 9, 0)
	check(t, p, 54, 36, true, 0, 0, 0, 9)
	check(t, p, 19, 13, true, 3, 4, 1, 0)
	check(t, p, 25, 17, true, 3, 4, 1, 1)
	checkMost(t, p, 12+7+54)
}

// P18.1: just below the cap, just it, and just above.
func TestEdgesOfCaps(t *testing.T) {
	for most, want := range map[int64]int64{0: 15, 1: 1, 14: 14, 15: 15, 16: 15, top: 15} {
		p := problem(0, []int64{most}, lot(3, 5, 2, 0))
		check(t, p, want, 6, true, 3)
		checkMost(t, p, want)
		p = problem(0, []int64{1, most, 1}, lot(2, 5, 2, 1), lot(1, 5, 2, 1))
		check(t, p, want, 6, true, 2, 1)
		checkMost(t, p, want)
	}
}

// P18.1: a cap of a group without lots adds nothing.
func TestCapsWithoutLots(t *testing.T) {
	p := problem(0, []int64{9, 0, 9, 9}, lot(3, 5, 2, 1))
	check(t, p, 0, 0, true, 0)
	check(t, p, 10, 4, true, 2)
	checkMost(t, p, 15)
}

// P18.1: take has one number for each lot, each 0 to its Units; else there is false, though Need is 0.
func TestWrongTakes(t *testing.T) {
	p := problem(0, []int64{0, 12}, lot(3, 5, 2, 0), lot(1, 4, 1, 1), lot(0, 7, 1, 1))
	check(t, p, 19, 7, true, 3, 1, 0)
	for _, take := range [][]int{nil, {}, {0}, {0, 0}, {3, 1}, {0, 0, 0, 0}, {3, 1, 0, 0}, {3, 1, 0, 5}, make([]int, 1<<16)} {
		check(t, p, 0, 0, false, take...)
	}
	for i, l := range p.Lots {
		for _, n := range outside(int64(l.Units)) {
			take := []int{0, 0, 0}
			take[i] = int(n)
			check(t, p, 0, 0, false, take...)
			take = []int{3, 1, 0}
			take[i] = int(n)
			check(t, p, 0, 0, false, take...)
		}
	}
}

// P18.1: it fits, if it is worth just Need, or more.
func TestFits(t *testing.T) {
	for need, want := range map[int64]bool{0: true, 1: true, 9: true, 10: true, 11: false, 12: false, top: false} {
		if got := lots.Fits(problem(need, free(), lot(3, 5, 2, 0)), 2); got != want {
			t.Errorf("of 10, where %d is needed, Fits = %v", need, got)
		}
	}
	capped := problem(11, []int64{10, 0}, lot(3, 5, 2, 0), lot(3, 1, 2, 1))
	check(t, capped, 10, 6, true, 3, 0)
	check(t, capped, 11, 8, true, 3, 1)
}

// P18.1, P0.6: all the greatest numbers, with caps and without, are just added.
func TestGreatest(t *testing.T) {
	all := slices.Repeat([]int{api.MaxUnits}, api.MaxLots)
	l := slices.Repeat([]api.Lot{lot(api.MaxUnits, each, each, 0)}, api.MaxLots)
	check(t, problem(top, free(), l...), 8*top, 8*top, true, all...)
	checkMost(t, problem(top, free(), l...), 8*top)
	check(t, problem(top, []int64{top}, l...), top, 8*top, true, all...)
	checkMost(t, problem(top, []int64{top}, l...), top)
	for i := range l {
		l[i].Group = i
	}
	check(t, problem(top, slices.Repeat([]int64{top - 1}, 8), l...), 8*top-8, 8*top, true, all...)
	checkMost(t, problem(top, slices.Repeat([]int64{top - 1}, 8), l...), 8*top-8)
}

// P18.1, P18.2: for many problems, small and great, right and wrong, the answers are what the words say.
func TestAsTheWordsSay(t *testing.T) {
	r := rand.New(rand.NewSource(18))
	for range 5000 {
		p := anyProblem(r)
		take := make([]int, len(p.Lots))
		for i, l := range p.Lots {
			take[i] = r.Intn(l.Units + 1)
		}
		worth, cost := told(p, take)
		check(t, p, worth, cost, true, take...)
		all, _ := told(p, unitsOf(p))
		checkMost(t, p, all)
		greedy, is := toldGreedy(p)
		checkGreedy(t, p, greedy, is)
	}
}

// anyProblem is some valid problem; its Need may be just what is there, or more.
func anyProblem(r *rand.Rand) lots.Problem {
	units := []int{1, 3, 9, 40}[r.Intn(4)]
	most := []int64{2, 5, 50, each}[r.Intn(4)]
	p := problem(0, make([]int64, 1+r.Intn(api.MaxLots)))
	for range 1 + r.Intn(api.MaxLots) {
		p.Lots = append(p.Lots, lot(r.Intn(units+1), r.Int63n(most+1), r.Int63n(most+1), r.Intn(len(p.Caps))))
	}
	for g := range p.Caps {
		if r.Intn(2) == 0 {
			p.Caps[g] = r.Int63n(min(int64(units)*most*2, top) + 1)
		}
	}
	all, _ := told(p, unitsOf(p))
	p.Need = min(max(r.Int63n(all+all/8+1)+r.Int63n(3)-1, 0), top)
	if r.Intn(8) == 0 {
		p.Need = min(all+r.Int63n(2), top)
	}
	return p
}

func unitsOf(p lots.Problem) []int {
	var all []int
	for _, l := range p.Lots {
		all = append(all, l.Units)
	}
	return all
}

// told is what Worth and Cost have to answer.
func told(p lots.Problem, take []int) (int64, int64) {
	worth, cost := new(big.Int), new(big.Int)
	for g, most := range p.Caps {
		group := new(big.Int)
		for i, l := range p.Lots {
			if l.Group == g {
				group.Add(group, times(take[i], l.Value))
				cost.Add(cost, times(take[i], l.Cost))
			}
		}
		if most > 0 && group.Cmp(big.NewInt(most)) > 0 {
			group.SetInt64(most)
		}
		worth.Add(worth, group)
	}
	return worth.Int64(), cost.Int64()
}

func times(units int, n int64) *big.Int {
	return new(big.Int).Mul(big.NewInt(int64(units)), big.NewInt(n))
}

// P0.4: what is handed in is not changed, nor what lies behind it, nor kept.
func TestProblemStays(t *testing.T) {
	l := []api.Lot{lot(5, 5, 9, 0), lot(5, 5, 1, 1), lot(5, 5, 1, 1), lot(-7, -7, -7, -7)}
	caps := []int64{0, 8, -1}
	take := []int{1, 2, -1}
	wasLots, wasCaps, wasTake := slices.Clone(l), slices.Clone(caps), slices.Clone(take)
	p := problem(14, caps[:2], l[:2]...)
	for range 2 {
		checkValid(t, p, nil)
		check(t, p, 13, 11, true, take[:2]...)
		checkMost(t, p, 33)
		checkGreedy(t, p, []int{2, 2}, true)
	}
	if !slices.Equal(l, wasLots) || !slices.Equal(caps, wasCaps) || !slices.Equal(take, wasTake) {
		t.Errorf("%v, %v, %v are changed", l, caps, take)
	}
	l[0].Value, caps[1], p.Need = 7, 3, 10
	check(t, p, 10, 11, true, take[:2]...)
	checkMost(t, p, 38)
	checkGreedy(t, p, []int{1, 1}, true)
}
