package cert_test

import (
	"math"
	"slices"
	"testing"

	"pledge/alloc"
	"pledge/api"
	"pledge/cert"
	"pledge/lots"
)

const (
	each = 1_000_000_000     // the greatest Value, and Cost
	top  = 1_000_000_000_000 // the greatest cap, and Need
)

func lot(units int, value, cost int64, group int) api.Lot {
	return api.Lot{Units: units, Value: value, Cost: cost, Group: group}
}

func problem(need int64, caps []int64, l ...api.Lot) lots.Problem {
	return lots.Problem{Lots: l, Caps: caps, Need: need}
}

func free() []int64 { return []int64{0} }

func result(worth, cost int64, take ...int) alloc.Result {
	return alloc.Result{Take: take, Worth: worth, Cost: cost}
}

// usual: group 0 counts all, group 1 at most 6, though its lot may come to 12.
func usual(need int64) lots.Problem {
	return problem(need, []int64{0, 6}, lot(3, 5, 3, 0), lot(4, 3, 1, 1))
}

// wrong is a problem that is not valid, and what lots.Valid says of it.
type wrong struct {
	p    lots.Problem
	want error
}

func wrongProblems() []wrong {
	right := lot(5, 5, 4, 0)
	var all []wrong
	add := func(want error, p lots.Problem) { all = append(all, wrong{p, want}) }
	add(api.ErrMany, lots.Problem{})
	add(api.ErrMany, problem(0, free()))
	add(api.ErrMany, problem(0, nil, right))
	add(api.ErrMany, problem(0, []int64{}, right))
	add(api.ErrMany, problem(0, make([]int64, api.MaxLots+1), right))
	add(api.ErrMany, problem(0, free(), slices.Repeat([]api.Lot{right}, api.MaxLots+1)...))
	for _, n := range []int64{math.MinInt64, -1, top + 1, math.MaxInt64} {
		add(api.ErrRange, problem(n, free(), right))
		add(api.ErrRange, problem(0, []int64{0, n}, right))
		add(api.ErrRange, problem(0, free(), right, lot(int(n), 5, 4, 0)))
		add(api.ErrRange, problem(0, free(), right, lot(5, n, 4, 0)))
		add(api.ErrRange, problem(0, free(), right, lot(5, 5, n, 0)))
		add(api.ErrRange, problem(0, free(), right, lot(5, 5, 4, int(n))))
	}
	add(api.ErrRange, problem(0, free(), lot(api.MaxUnits+1, 5, 4, 0)))
	add(api.ErrRange, problem(0, free(), lot(5, each+1, 4, 0)))
	add(api.ErrRange, problem(0, free(), lot(5, 5, each+1, 0)))
	add(api.ErrRange, problem(0, free(), lot(5, 5, 4, 1)))
	return all
}

// someTakes are of no lot to nine, right and wrong.
func someTakes() [][]int {
	takes := [][]int{nil, {-1}, {math.MinInt}, {math.MaxInt}, {0, math.MinInt}}
	for n := range api.MaxLots + 2 {
		takes = append(takes, slices.Repeat([]int{0}, n), slices.Repeat([]int{1}, n))
	}
	return takes
}

// checkError asks Check and Gap for an error, and nothing beside.
func checkError(t *testing.T, p lots.Problem, r alloc.Result, want error) {
	t.Helper()
	if err := cert.Check(p, r); err != want {
		t.Errorf("Check(%v, %v) = %v, want %v", p, r, err, want)
	}
	if n, err := cert.Gap(p, r); n != 0 || err != want {
		t.Errorf("Gap(%v, %v) = %d, %v, want %v", p, r, n, err, want)
	}
}

// checkGap asks for a result that is right, and for its Gap.
func checkGap(t *testing.T, p lots.Problem, r alloc.Result, want int64) {
	t.Helper()
	if err := cert.Check(p, r); err != nil {
		t.Errorf("Check(%v, %v) = %v", p, r, err)
	}
	if n, err := cert.Gap(p, r); n != want || err != nil {
		t.Errorf("Gap(%v, %v) = %d, %v, want %d", p, r, n, err, want)
	}
}

// P21.1: what fits, just or by more, and is worth and costs what it says, is right.
func TestCheckRight(t *testing.T) {
	for _, r := range []alloc.Result{
		result(10, 6, 2, 0),
		result(11, 5, 1, 2),
		result(11, 6, 1, 3), // the third unit counts nothing, but costs
		result(21, 13, 3, 4),
	} {
		if err := cert.Check(usual(10), r); err != nil {
			t.Errorf("Check(%v) = %v", r, err)
		}
	}
	for need, r := range map[int64]alloc.Result{
		0: result(0, 0, 0, 0),
		1: result(3, 1, 0, 1),
		3: result(3, 1, 0, 1),
		6: result(6, 4, 0, 4),
		9: result(11, 5, 1, 2),
	} {
		if err := cert.Check(usual(need), r); err != nil {
			t.Errorf("Check(%d, %v) = %v", need, r, err)
		}
	}
}

// P21.1: Sure and Looked are not asked for, whatever they are.
func TestSureAndLooked(t *testing.T) {
	for _, looked := range []int{math.MinInt, -1, 0, 1, api.MaxBudget, api.MaxBudget + 1, math.MaxInt} {
		for _, sure := range []bool{false, true} {
			// Cheaper ones fit, though it be said to be sure.
			checkGap(t, usual(10), alloc.Result{Take: []int{2, 0}, Worth: 10, Cost: 6, Sure: sure, Looked: looked}, 2)
			checkError(t, usual(10), alloc.Result{Take: []int{0, 4}, Worth: 6, Cost: 4, Sure: sure, Looked: looked}, api.ErrNeed)
		}
	}
}

// P21.1: of a problem that is not valid it is lots.Valid's, whatever the result is.
func TestProblemNotValid(t *testing.T) {
	for _, x := range wrongProblems() {
		checkError(t, x.p, alloc.Result{}, x.want)
		for _, take := range someTakes() {
			checkError(t, x.p, result(0, 0, take...), x.want)
			checkError(t, x.p, result(5, 4, take...), x.want)
		}
	}
}

// P21.1: ErrShape, if not just as many numbers are there as lots, or one is not 0 to its Units; where nothing is needed too.
func TestNoTake(t *testing.T) {
	for _, need := range []int64{0, 1, 10, top} {
		p := usual(need)
		checkError(t, p, alloc.Result{}, api.ErrShape)
		checkError(t, p, result(0, 0), api.ErrShape)
		checkError(t, p, result(15, 9, 3), api.ErrShape)
		checkError(t, p, result(0, 0, 0), api.ErrShape)
		checkError(t, p, result(21, 13, 3, 4, 0), api.ErrShape)
		checkError(t, p, result(0, 0, 0, 0, 0), api.ErrShape)
		checkError(t, p, result(20, 12, 4, 0), api.ErrShape)
		checkError(t, p, result(6, 5, 0, 5), api.ErrShape)
		checkError(t, p, result(21, 14, 3, 5), api.ErrShape)
		checkError(t, p, result(-5, -3, -1, 0), api.ErrShape)
		checkError(t, p, result(12, 8, 3, -1), api.ErrShape)
		for _, n := range []int{math.MinInt, -1 << 32, 1 << 32, math.MaxInt} {
			checkError(t, p, result(0, 0, n, 0), api.ErrShape)
			checkError(t, p, result(0, 0, 0, n), api.ErrShape)
		}
	}
}

// P21.1: ErrShape, if Worth or Cost is another one, by however little, to either side.
func TestNotItsNumbers(t *testing.T) {
	p := usual(10)
	for _, r := range []alloc.Result{result(10, 6, 2, 0), result(11, 5, 1, 2), result(21, 13, 3, 4)} {
		for _, off := range []int64{1, -1, 5, -5, 1 << 32, math.MinInt64} {
			checkError(t, p, result(r.Worth+off, r.Cost, r.Take...), api.ErrShape)
			checkError(t, p, result(r.Worth, r.Cost+off, r.Take...), api.ErrShape)
			checkError(t, p, result(r.Worth+off, r.Cost-off, r.Take...), api.ErrShape)
			checkError(t, p, result(r.Worth+off, r.Cost+off, r.Take...), api.ErrShape)
		}
		checkError(t, p, result(r.Cost, r.Worth, r.Take...), api.ErrShape)
		checkError(t, p, result(0, 0, r.Take...), api.ErrShape)
	}
	// Worth is what the caps leave, not what the units are worth, and what is taken, not what is needed.
	checkError(t, p, result(27, 13, 3, 4), api.ErrShape)
	checkError(t, p, result(10, 5, 1, 2), api.ErrShape)
}

// P21.1: ErrNeed, if it is worth less than Need, by one too; all that is there, where that is too little.
func TestNotEnough(t *testing.T) {
	checkError(t, usual(10), result(8, 4, 1, 1), api.ErrNeed)
	checkError(t, usual(10), result(6, 4, 0, 4), api.ErrNeed) // 12 without the cap
	checkError(t, usual(10), result(0, 0, 0, 0), api.ErrNeed)
	checkError(t, usual(11), result(10, 6, 2, 0), api.ErrNeed)
	checkError(t, usual(1), result(0, 0, 0, 0), api.ErrNeed)
	checkError(t, usual(22), result(21, 13, 3, 4), api.ErrNeed)
	checkError(t, usual(top), result(21, 13, 3, 4), api.ErrNeed)
	checkError(t, problem(top, free(), lot(api.MaxUnits, each, 1, 0)), result(top-each, api.MaxUnits-1, api.MaxUnits-1), api.ErrNeed)
	checkError(t, problem(top, []int64{top - 1}, lot(api.MaxUnits, each, 1, 0)), result(top-1, api.MaxUnits, api.MaxUnits), api.ErrNeed)
}

// P21.1, P0.2: the problem is asked first, then what is taken and its numbers, then whether that is enough.
func TestErrorsInOrder(t *testing.T) {
	checkError(t, problem(10, free()), result(1, 1, 1), api.ErrMany)
	checkError(t, problem(top+1, free(), lot(3, 5, 3, 0)), result(5, 3, 1), api.ErrRange)
	checkError(t, problem(10, free(), lot(3, 5, -3, 0)), result(5, 3, 1), api.ErrRange)
	checkError(t, usual(10), result(9, 4, 1, 1), api.ErrShape)
	checkError(t, usual(10), result(8, 5, 1, 1), api.ErrShape)
	checkError(t, usual(10), result(10, 4, 1, 1), api.ErrShape)
}

// P21.1: Gap is Cost less what Need costs at least, at the rate of the cheapest of all lots, cut up.
func TestGap(t *testing.T) {
	// 10 at 1 for 3 is 4 at least.
	checkGap(t, usual(10), result(10, 6, 2, 0), 2)
	checkGap(t, usual(10), result(11, 5, 1, 2), 1)
	checkGap(t, usual(10), result(21, 13, 3, 4), 9)
	// It is Need that counts, not Worth: 9 are 3, and 3 are just 1.
	checkGap(t, usual(9), result(10, 6, 2, 0), 3)
	checkGap(t, usual(3), result(3, 1, 0, 1), 0)
	checkGap(t, usual(4), result(6, 2, 0, 2), 0)
	checkGap(t, usual(1), result(3, 1, 0, 1), 0)
	checkGap(t, usual(7), result(8, 4, 1, 1), 1)
	for _, cheap := range []int{0, 1, 2} {
		p := problem(11, []int64{0, 0}, lot(5, 5, 5, 0), lot(5, 5, 5, 0), lot(5, 5, 5, 1))
		p.Lots[cheap].Cost = 2 // 11 at 2 for 5: 5, wherever it stands, and though nothing is taken of it
		take := []int{3, 3, 3}
		take[cheap] = 0
		checkGap(t, p, result(30, 30, take...), 25)
	}
}

// P21.1: what the bound leaves out: a lot without a Value or Units; and what it takes in: more than its Units or its cap.
func TestGapByTheBound(t *testing.T) {
	checkGap(t, problem(6, free(), lot(0, 5, 0, 0), lot(9, 3, 2, 0)), result(6, 4, 0, 2), 0)
	checkGap(t, problem(6, free(), lot(9, 0, 0, 0), lot(9, 3, 2, 0)), result(6, 4, 9, 2), 0)
	checkGap(t, problem(6, free(), lot(1, 1, 0, 0), lot(9, 3, 2, 0)), result(6, 4, 0, 2), 4)
	checkGap(t, problem(6, []int64{0, 1}, lot(9, 3, 2, 0), lot(9, 3, 1, 1)), result(6, 4, 2, 0), 2)
}

// P21.1: where nothing is needed all that it costs is too much, though no lot adds anything.
func TestGapNothingNeeded(t *testing.T) {
	checkGap(t, usual(0), result(0, 0, 0, 0), 0)
	checkGap(t, usual(0), result(8, 4, 1, 1), 4)
	checkGap(t, problem(0, free(), lot(2, 0, 5, 0)), result(0, 5, 1), 5)
	checkGap(t, problem(0, free(), lot(0, 5, 5, 0)), result(0, 0, 0), 0)
}

// P21.1: the greatest numbers that there may be.
func TestGapGreatNumbers(t *testing.T) {
	full := lot(api.MaxUnits, each, each, 0)
	checkGap(t, problem(top, free(), full), result(top, top, api.MaxUnits), 0)
	checkGap(t, problem(1, free(), full), result(top, top, api.MaxUnits), top-1)
	all := slices.Repeat([]int{api.MaxUnits}, api.MaxLots)
	l := slices.Repeat([]api.Lot{full}, api.MaxLots)
	checkGap(t, problem(top, free(), l...), result(8*top, 8*top, all...), 7*top)
	checkGap(t, problem(0, []int64{1}, l...), result(1, 8*top, all...), 8*top)
	l = slices.Repeat([]api.Lot{lot(api.MaxUnits, 1, each, 0)}, api.MaxLots)
	checkGap(t, problem(8*api.MaxUnits, free(), l...), result(8*api.MaxUnits, 8*top, all...), 0)
}

// P0.4: neither a problem nor a result that is handed in is changed, nor what lies behind them read.
func TestHandedInStays(t *testing.T) {
	l := []api.Lot{lot(3, 5, 3, 0), lot(4, 3, 1, 1), lot(-7, -7, -7, -7)}
	caps := []int64{0, 6, -1}
	take := []int{2, 1, -9}
	wasLots, wasCaps, wasTake := slices.Clone(l), slices.Clone(caps), slices.Clone(take)
	p := lots.Problem{Lots: l[:2], Caps: caps[:2], Need: 10}
	checkGap(t, p, result(13, 7, take[:2]...), 3)
	checkError(t, p, result(13, 8, take[:2]...), api.ErrShape)
	got, ok := cert.Swap(p, take[:2]...)
	if !slices.Equal(got, []int{2, 0}) || !ok {
		t.Errorf("Swap = %v, %v", got, ok)
	}
	if !slices.Equal(l, wasLots) || !slices.Equal(caps, wasCaps) || !slices.Equal(take, wasTake) {
		t.Errorf("%v, %v, %v are changed", l, caps, take)
	}
}
