package bound_test

import (
	"math"
	"math/big"
	"math/rand"
	"slices"
	"testing"

	"pledge/api"
	"pledge/bound"
	"pledge/lots"
)

const (
	each = 1_000_000_000     // the greatest Value, and Cost
	top  = 1_000_000_000_000 // the greatest cap, and Need
)

func lot(units int, value, cost int64, group int) api.Lot {
	return api.Lot{Units: units, Value: value, Cost: cost, Group: group}
}

// of is a problem of these lots, without caps and Need.
func of(l ...api.Lot) lots.Problem {
	return lots.Problem{Lots: l, Caps: []int64{0}}
}

func checkRate(t *testing.T, p lots.Problem, from int, cost, value int64) {
	t.Helper()
	if c, v, ok := bound.Rate(p, from); c != cost || v != value || !ok {
		t.Errorf("Rate(%v, %d) = %d, %d, %v, want %d, %d", p, from, c, v, ok, cost, value)
	}
}

func checkNoRate(t *testing.T, p lots.Problem, from int) {
	t.Helper()
	if c, v, ok := bound.Rate(p, from); c != 0 || v != 0 || ok {
		t.Errorf("Rate(%v, %d) = %d, %d, %v, want none", p, from, c, v, ok)
	}
}

func checkLeast(t *testing.T, p lots.Problem, from int, left, want int64, is bool) {
	t.Helper()
	if got, ok := bound.Least(p, from, left); got != want || ok != is {
		t.Errorf("Least(%v, %d, %d) = %d, %v, want %d, %v", p, from, left, got, ok, want, is)
	}
}

func checkCan(t *testing.T, p lots.Problem, from int, left int64, want bool) {
	t.Helper()
	if got := bound.Can(p, from, left); got != want {
		t.Errorf("Can(%v, %d, %d) = %v", p, from, left, got)
	}
}

// checkNothing asks all calls of what is not there, where little or nothing is to be come to as well.
func checkNothing(t *testing.T, p lots.Problem, from int) {
	t.Helper()
	checkNoRate(t, p, from)
	for _, left := range []int64{math.MinInt64, -1, 0, 1, 5, top, math.MaxInt64} {
		checkLeast(t, p, from, left, 0, false)
		checkCan(t, p, from, left, false)
	}
}

// P19.1: the one that costs less for what it is worth, though it costs more a unit, is worth less, or stands behind.
func TestRate(t *testing.T) {
	checkRate(t, of(lot(5, 5, 4, 0)), 0, 4, 5)
	checkRate(t, of(lot(5, 5, 5, 0), lot(5, 5, 4, 0)), 0, 4, 5)
	checkRate(t, of(lot(5, 5, 4, 0), lot(5, 5, 5, 0)), 0, 4, 5)
	checkRate(t, of(lot(5, 5, 4, 0), lot(5, 6, 4, 0)), 0, 4, 6)
	checkRate(t, of(lot(5, 1, 1, 0), lot(1, 10, 9, 0)), 0, 9, 10)
	checkRate(t, of(lot(5, 1, 1, 0), lot(1, 10, 11, 0)), 0, 1, 1)
	checkRate(t, of(lot(5, 10, 11, 0), lot(1, 1, 1, 0)), 0, 1, 1)
	checkRate(t, of(lot(5, 3, 3, 0), lot(5, 3, 1, 0), lot(5, 3, 4, 0), lot(5, 3, 2, 0)), 0, 1, 3)
	checkRate(t, of(lot(1, 1, each, 0), lot(1, each, 1, 0)), 0, 1, each)
	checkRate(t, of(lot(api.MaxUnits, each, each, 0)), 0, each, each)
}

// P19.1: Cost and Value are those of the lot, whatever divides both.
func TestRateIsTheLots(t *testing.T) {
	checkRate(t, of(lot(5, 6, 4, 0)), 0, 4, 6)
	checkRate(t, of(lot(5, each, each, 0), lot(5, 2, 4, 0)), 0, each, each)
	checkRate(t, of(lot(5, 100, 50, 0), lot(7, 3, 3, 0)), 0, 50, 100)
}

// P19.1: of those that cost as much for what they are worth it is the first, not the one with the smaller or the greater numbers.
func TestRateFirstOfEqual(t *testing.T) {
	checkRate(t, of(lot(5, 2, 4, 0), lot(5, 1, 2, 0), lot(5, 3, 6, 0)), 0, 4, 2)
	checkRate(t, of(lot(5, 1, 2, 0), lot(5, 2, 4, 0), lot(5, 3, 6, 0)), 0, 2, 1)
	checkRate(t, of(lot(1, 3, 6, 0), lot(9, 2, 4, 0), lot(5, 1, 2, 0)), 0, 6, 3)
	checkRate(t, of(lot(1, 3, 7, 0), lot(9, 2, 4, 0), lot(5, 1, 2, 0)), 0, 4, 2)
	checkRate(t, of(lot(1, 3, 6, 0), lot(9, 2, 4, 0), lot(5, 1, 2, 0)), 1, 4, 2)
}

// P19.1: what costs nothing is the cheapest, and it is a Rate; of several such ones the first is.
func TestRateOfWhatCostsNothing(t *testing.T) {
	checkRate(t, of(lot(5, 5, 0, 0)), 0, 0, 5)
	checkRate(t, of(lot(5, each, 1, 0), lot(5, 1, 0, 0)), 0, 0, 1)
	checkRate(t, of(lot(5, 1, 0, 0), lot(5, each, 1, 0)), 0, 0, 1)
	checkRate(t, of(lot(5, 3, 0, 0), lot(5, 9, 0, 0), lot(5, 1, 0, 0)), 0, 0, 3)
}

// P19.1: rates that differ by less than floats tell, or than a whole number, are told apart.
func TestNearRates(t *testing.T) {
	for _, x := range [][2]api.Lot{ // the dearer one, the cheaper one
		{lot(1, each-1, each, 0), lot(1, each, each, 0)},
		{lot(1, each-2, each-1, 0), lot(1, each-1, each, 0)},
		{lot(1, each, each-1, 0), lot(1, each-1, each-2, 0)},
	} {
		checkRate(t, of(x[0], x[1]), 0, x[1].Cost, x[1].Value)
		checkRate(t, of(x[1], x[0]), 0, x[1].Cost, x[1].Value)
	}
}

// P19.1: one without a Value, or without Units, is none, wherever it stands and whatever it costs.
func TestPassedOver(t *testing.T) {
	for _, nothing := range []api.Lot{{}, lot(5, 0, 0, 0), lot(5, 0, each, 0), lot(0, 50, 1, 0), lot(0, each, 0, 0), lot(api.MaxUnits, 0, 1, 0)} {
		checkRate(t, of(nothing, lot(1, 5, 4, 0)), 0, 4, 5)
		checkRate(t, of(lot(1, 5, 4, 0), nothing), 0, 4, 5)
		p := of(nothing, lot(1, 5, 5, 0), nothing, lot(2, 5, 4, 0), nothing)
		checkRate(t, p, 0, 4, 5)
		checkLeast(t, p, 0, 6, 5, true)
		checkCan(t, p, 0, 15, true)
		checkCan(t, p, 0, 16, false)
		for from := range 3 {
			p = of(nothing, nothing)
			checkNoRate(t, p, from)
			checkLeast(t, p, from, 1, 0, false)
			checkLeast(t, p, from, math.MaxInt64, 0, false)
			checkLeast(t, p, from, 0, 0, true)
			checkCan(t, p, from, 1, false)
			checkCan(t, p, from, 0, true)
		}
	}
}

// P19.1: the lots ahead of from are none; there are such places from the first to the one behind the last.
func TestFrom(t *testing.T) {
	p := of(lot(1, 4, 1, 0), lot(2, 4, 4, 0), lot(3, 4, 2, 0), lot(4, 4, 3, 0))
	for from, want := range []struct{ cost, left int64 }{{1, 40}, {2, 36}, {2, 28}, {3, 16}} {
		checkRate(t, p, from, want.cost, 4)
		checkLeast(t, p, from, 4, want.cost, true)
		checkCan(t, p, from, want.left, true)
		checkCan(t, p, from, want.left+1, false)
	}
	checkNoRate(t, p, 4)
	checkLeast(t, p, 4, 0, 0, true)
	checkLeast(t, p, 4, 1, 0, false)
	checkCan(t, p, 4, 0, true)
	checkCan(t, p, 4, 1, false)
	for _, from := range []int{math.MinInt64, -1 << 32, -4, -1, 5, 6, 1 << 32, 1<<32 + 1, math.MaxInt64} {
		checkNothing(t, p, from)
	}
}

// P19.1: from may be as great as there are lots, not as there may be, nor as there is memory.
func TestFromBehindTheLast(t *testing.T) {
	l := slices.Repeat([]api.Lot{lot(1, 1, 1, 0)}, api.MaxLots)
	for n := 1; n <= api.MaxLots; n++ {
		p := of(l[:n]...)
		checkRate(t, p, n-1, 1, 1)
		checkLeast(t, p, n, -1, 0, true)
		checkCan(t, p, n, 0, true)
		checkCan(t, p, n, 1, false)
		checkNoRate(t, p, n)
		checkNothing(t, p, n+1)
		checkNothing(t, p, -1)
	}
}

// P19.1: Least is cut up.
func TestLeast(t *testing.T) {
	p := of(lot(9, 3, 2, 0), lot(9, 5, 4, 0))
	for left, want := range map[int64]int64{1: 1, 2: 2, 3: 2, 4: 3, 5: 4, 6: 4, 7: 5, 27: 18, 28: 19, 3000: 2000, 3001: 2001} {
		checkLeast(t, p, 0, left, want, true)
	}
	checkLeast(t, p, 1, 4, 4, true)
	checkLeast(t, p, 1, 5, 4, true)
	checkLeast(t, p, 1, 6, 5, true)
	checkLeast(t, of(lot(1, each, 1, 0)), 0, 1, 1, true)
	checkLeast(t, of(lot(1, each, 1, 0)), 0, each, 1, true)
	checkLeast(t, of(lot(1, each, 1, 0)), 0, each+1, 2, true)
	checkLeast(t, of(lot(1, 1, each, 0)), 0, 7, 7*each, true)
}

// P19.1: the example: what is nothing or less costs nothing, though there be no Rate.
func TestLeastOfNothing(t *testing.T) {
	for _, left := range []int64{0, -1, -5, -each, math.MinInt64 + 1, math.MinInt64} {
		for from := range 3 {
			checkLeast(t, of(lot(9, 3, 2, 0), lot(9, 5, 4, 0)), from, left, 0, true)
			checkLeast(t, of(lot(0, 3, 2, 0), lot(9, 0, 4, 0)), from, left, 0, true)
		}
	}
}

// P19.1: what costs nothing comes to anything at 0.
func TestLeastForNothing(t *testing.T) {
	for _, left := range []int64{1, each, math.MaxInt64} {
		checkLeast(t, of(lot(9, 3, 2, 0), lot(1, 1, 0, 0)), 0, left, 0, true)
	}
}

// P19.1, P0.6: the greatest numbers of 64 bits are answered, though the product is greater; what is greater, if only for being cut up, is false, and 0.
func TestGreatestLeast(t *testing.T) {
	for _, x := range []struct {
		cost, value, left, want int64
	}{
		{1, 1, math.MaxInt64, math.MaxInt64},
		{each, each, math.MaxInt64, math.MaxInt64},
		{2, 1, 1<<62 - 1, math.MaxInt64 - 1},
		{2, 1, 1 << 62, 0},
		{3, 2, 6148914691236517204, math.MaxInt64 - 1},
		{3, 2, 6148914691236517205, 0}, // just 2^63 - 1, and a half
		{1, 2, math.MaxInt64, 1 << 62},
		{each, each - 1, math.MaxInt64, 0},
		{each - 1, each, math.MaxInt64, math.MaxInt64 - 9223372036},
		{each, 1, math.MaxInt64 / each, math.MaxInt64 / each * each},
		{each, 1, math.MaxInt64/each + 1, 0},
		{each, 1, math.MaxInt64, 0},
		{1 << 29, 1, 1 << 34, 0},
		{1 << 29, 1, 1 << 35, 0}, // 2^64, of which 64 bits are 0
		{1 << 29, 1, 1<<35 + 1, 0},
	} {
		checkLeast(t, of(lot(1, x.value, x.cost, 0)), 0, x.left, x.want, x.want != 0)
	}
}

// P19.1: all Units of all lots are counted, what is just enough too.
func TestCan(t *testing.T) {
	p := of(lot(3, 5, 9, 0), lot(4, 7, 0, 0))
	for left, want := range map[int64]bool{math.MinInt64: true, -1: true, 0: true, 1: true, 42: true, 43: true, 44: false, top: false, math.MaxInt64: false} {
		checkCan(t, p, 0, left, want)
	}
	checkCan(t, p, 1, 28, true)
	checkCan(t, p, 1, 29, false)
	full := slices.Repeat([]api.Lot{lot(api.MaxUnits, each, each, 0)}, api.MaxLots)
	checkCan(t, of(full...), 0, 8*top, true)
	checkCan(t, of(full...), 0, 8*top+1, false)
	checkCan(t, of(full...), 7, top, true)
	checkCan(t, of(full...), 7, top+1, false)
}

// P19.1: caps, groups and Need change nothing.
func TestCapsDoNotMatter(t *testing.T) {
	l := []api.Lot{lot(3, 5, 5, 1), lot(4, 7, 5, 1), lot(2, 9, 9, 0)}
	for _, caps := range [][]int64{{0, 0}, {1, 1}, {1, 43}, {top, 2}, {0, 1, 1, 1, 1, 1, 1, 1}} {
		for _, needed := range []int64{0, 1, top} {
			p := lots.Problem{Lots: l, Caps: caps, Need: needed}
			checkRate(t, p, 0, 5, 7)
			checkLeast(t, p, 0, 60, 43, true)
			checkCan(t, p, 0, 61, true)
			checkCan(t, p, 0, 62, false)
			checkRate(t, p, 2, 9, 9)
			checkCan(t, p, 2, 18, true)
		}
	}
}

// P19.1: of a problem that is not valid there is nothing, though what is wrong stands ahead of from, or doesn't matter to the call.
func TestNotValid(t *testing.T) {
	right := lot(5, 5, 4, 0)
	var wrong []lots.Problem
	for _, l := range []api.Lot{lot(-1, 5, 4, 0), lot(api.MaxUnits+1, 5, 4, 0), lot(5, -1, 4, 0), lot(5, each+1, 4, 0), lot(5, 5, -1, 0), lot(5, 5, each+1, 0), lot(5, 5, 4, -1), lot(5, 5, 4, 1), lot(math.MinInt64, math.MinInt64, math.MinInt64, math.MinInt64), lot(math.MaxInt64, math.MaxInt64, math.MaxInt64, math.MaxInt64)} {
		wrong = append(wrong, of(l), of(l, right), of(right, l))
	}
	for _, n := range []int64{math.MinInt64, -1, top + 1, math.MaxInt64} {
		wrong = append(wrong, lots.Problem{Lots: []api.Lot{right}, Caps: []int64{0}, Need: n})
		wrong = append(wrong, lots.Problem{Lots: []api.Lot{right}, Caps: []int64{0, n}})
	}
	wrong = append(wrong, lots.Problem{}, of(), lots.Problem{Lots: []api.Lot{right}}, lots.Problem{Lots: []api.Lot{right}, Caps: []int64{}})
	wrong = append(wrong, of(slices.Repeat([]api.Lot{right}, api.MaxLots+1)...))
	wrong = append(wrong, lots.Problem{Lots: []api.Lot{right}, Caps: make([]int64, api.MaxLots+1)})
	for _, p := range wrong {
		for from := -1; from <= len(p.Lots)+1; from++ {
			checkNothing(t, p, from)
		}
	}
}

// P19.2: for many small problems, whatever is taken costs Least of what it is worth, and of all that is less, with caps and without.
func TestNothingCostsLess(t *testing.T) {
	r := rand.New(rand.NewSource(19))
	for range 300 {
		p := smallProblem(r)
		for from := range len(p.Lots) + 1 {
			eachTake(p, from, func(take []int) { checkTaken(t, p, from, take) })
		}
	}
}

// smallProblem is some problem of which all that may be taken can be gone through.
func smallProblem(r *rand.Rand) lots.Problem {
	p := lots.Problem{Caps: make([]int64, 1+r.Intn(3))}
	most := []int64{3, 9, each}[r.Intn(3)]
	for range 1 + r.Intn(3) {
		p.Lots = append(p.Lots, lot(r.Intn(5), r.Int63n(most+1), r.Int63n(most+1), r.Intn(len(p.Caps))))
	}
	for g := range p.Caps {
		p.Caps[g] = r.Int63n(2) * r.Int63n(5*most)
	}
	return p
}

// eachTake hands out all that may be taken of the lots from from on, and none of the others.
func eachTake(p lots.Problem, from int, with func([]int)) {
	take := make([]int, len(p.Lots))
	var next func(i int)
	next = func(i int) {
		if i == len(take) {
			with(take)
			return
		}
		for take[i] = range p.Lots[i].Units + 1 {
			next(i + 1)
		}
		take[i] = 0
	}
	next(from)
}

func checkTaken(t *testing.T, p lots.Problem, from int, take []int) {
	t.Helper()
	cost, ok := lots.Cost(p, take...)
	free := lots.Problem{Lots: p.Lots, Caps: make([]int64, len(p.Caps))}
	worth, _ := lots.Worth(free, take...)
	capped, _ := lots.Worth(p, take...)
	for _, left := range []int64{worth, capped, worth - 1, worth / 2, 1, 0, -1} {
		if left > worth {
			continue
		}
		least, is := bound.Least(p, from, left)
		if !ok || !is || least > cost {
			t.Fatalf("of %v from %d on %v is worth %d and costs %d; Least of %d is %d, %v", p, from, take, worth, cost, left, least, is)
		}
		if !bound.Can(p, from, left) {
			t.Fatalf("of %v from %d on %v is worth %d, but Can of %d is false", p, from, take, worth, left)
		}
	}
}

// P19.2: it is no less than it may be: the cheapest one, taken as a whole, costs just Least.
func TestLeastIsCome(t *testing.T) {
	p := of(lot(api.MaxUnits, 999_999_937, 3, 0), lot(api.MaxUnits, 1, 1, 0), lot(api.MaxUnits, each, each, 0))
	for units := range int64(api.MaxUnits + 1) {
		checkLeast(t, p, 0, units*999_999_937, units*3, true)
		checkLeast(t, p, 2, units*each, units*each, true)
	}
}

// P19.1: for many problems, small and great, the answers are what the words say.
func TestAsTheWordsSay(t *testing.T) {
	r := rand.New(rand.NewSource(91))
	for range 5000 {
		p := anyProblem(r)
		from := r.Intn(len(p.Lots) + 1)
		best, is := toldRate(p.Lots[from:])
		if is {
			checkRate(t, p, from, best.Cost, best.Value)
		} else {
			checkNoRate(t, p, from)
		}
		all := toldAll(p.Lots[from:])
		for _, left := range []int64{all - 1, all, all + 1, r.Int63n(all + 2), -r.Int63(), r.Int63(), r.Int63() >> r.Intn(63)} {
			want, ok := toldLeast(best, left)
			checkLeast(t, p, from, left, want, ok)
			checkCan(t, p, from, left, all >= left)
		}
	}
}

// anyProblem is some valid problem; many of its lots cost as much for what they are worth.
func anyProblem(r *rand.Rand) lots.Problem {
	p := lots.Problem{Caps: make([]int64, 1+r.Intn(api.MaxLots)), Need: r.Int63n(top + 1)}
	units := []int{1, 3, api.MaxUnits}[r.Intn(3)]
	most := []int64{2, 5, 50, each}[r.Intn(4)]
	for range 1 + r.Intn(api.MaxLots) {
		p.Lots = append(p.Lots, lot(r.Intn(units+1), r.Int63n(most+1), r.Int63n(most+1), r.Intn(len(p.Caps))))
	}
	for g := range p.Caps {
		p.Caps[g] = r.Int63n(top + 1)
	}
	return p
}

// toldRate is the lot whose Cost and Value Rate has to answer; one without a Value, if there is none.
func toldRate(l []api.Lot) (api.Lot, bool) {
	worthy := slices.DeleteFunc(slices.Clone(l), func(a api.Lot) bool { return a.Units == 0 || a.Value == 0 })
	if len(worthy) == 0 {
		return api.Lot{}, false
	}
	return slices.MinFunc(worthy, func(a, b api.Lot) int {
		return big.NewRat(a.Cost, a.Value).Cmp(big.NewRat(b.Cost, b.Value))
	}), true
}

func toldAll(l []api.Lot) int64 {
	all := new(big.Int)
	for _, a := range l {
		all.Add(all, new(big.Int).Mul(big.NewInt(int64(a.Units)), big.NewInt(a.Value)))
	}
	return all.Int64()
}

// toldLeast is what Least has to answer, where best is the Rate.
func toldLeast(best api.Lot, left int64) (int64, bool) {
	if left <= 0 {
		return 0, true
	}
	if best.Value == 0 {
		return 0, false
	}
	n := new(big.Int).Mul(big.NewInt(left), big.NewInt(best.Cost))
	n.Add(n, big.NewInt(best.Value-1)).Div(n, big.NewInt(best.Value))
	if !n.IsInt64() {
		return 0, false
	}
	return n.Int64(), true
}

// P0.4: what is handed in is not changed, nor what lies behind it read, nor any of it kept.
func TestProblemStays(t *testing.T) {
	l := []api.Lot{lot(5, 5, 9, 0), lot(5, 5, 1, 1), lot(5, 5, 2, 1), lot(9, 9, 0, 0), lot(-7, -7, -7, -7)}
	caps := []int64{0, 8, -1}
	wasLots, wasCaps := slices.Clone(l), slices.Clone(caps)
	p := lots.Problem{Lots: l[:3], Caps: caps[:2], Need: 14}
	for range 2 {
		checkRate(t, p, 0, 1, 5)
		checkRate(t, p, 2, 2, 5)
		checkLeast(t, p, 0, 26, 6, true)
		checkCan(t, p, 0, 75, true)
		checkCan(t, p, 0, 76, false)
		checkNoRate(t, p, 3)
	}
	if !slices.Equal(l, wasLots) || !slices.Equal(caps, wasCaps) {
		t.Errorf("%v, %v are changed", l, caps)
	}
	l[1].Cost, l[0].Units = 3, 4
	checkRate(t, p, 0, 2, 5)
	checkLeast(t, p, 0, 26, 11, true)
	checkCan(t, p, 0, 70, true)
	checkCan(t, p, 0, 71, false)
}
