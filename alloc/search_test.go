package alloc_test

import (
	"math/rand"
	"testing"

	"pledge/alloc"
	"pledge/api"
	"pledge/lots"
)

// choices is how many there are, as far as a budget may go, and one.
func choices(p lots.Problem) int {
	n := 1
	for _, l := range p.Lots {
		n = min(n*(l.Units+1), api.MaxBudget+1)
	}
	return n
}

// cheapest goes through all choices: the least that one costs that is enough; -1, if none is.
func cheapest(p lots.Problem) int64 {
	least := int64(-1)
	take := make([]int, len(p.Lots))
	var next func(i int)
	next = func(i int) {
		if i < len(take) {
			for take[i] = range p.Lots[i].Units + 1 {
				next(i + 1)
			}
			return
		}
		if cost, _ := lots.Cost(p, take...); (least < 0 || cost < least) && lots.Fits(p, take...) {
			least = cost
		}
	}
	next(0)
	return least
}

// smallProblem is some problem of which all choices can be gone through; many of its lots are alike, or near.
func smallProblem(r *rand.Rand) lots.Problem {
	p := lots.Problem{Caps: make([]int64, 1+r.Intn(4))}
	most := []int64{2, 5, 30, 1000, each}[r.Intn(5)]
	units := []int{1, 2, 4, 12}[r.Intn(4)]
	n := 1 + r.Intn(4)
	if units == 1 {
		n = 1 + r.Intn(api.MaxLots)
	}
	kind := r.Intn(3)
	for range n {
		l := lot(r.Intn(units+1), r.Int63n(most+1), r.Int63n(most+1), r.Intn(len(p.Caps)))
		switch kind {
		case 0: // as dear as it is worth, or nearly
			l.Cost = min(each, l.Value+r.Int63n(2))
		case 1: // so cheap that what is worth one more may cost nothing more
			l.Cost = r.Int63n(3)
		}
		p.Lots = append(p.Lots, l)
	}
	for g := range p.Caps {
		p.Caps[g] = r.Int63n(2) * r.Int63n(min(top, 2*most*int64(units))+1)
	}
	p.Need = min(top, r.Int63n(lots.Most(p)+2))
	return p
}

// checkBudgets holds Best by these budgets against the words: cheapest is the least cost.
func checkBudgets(t *testing.T, p lots.Problem, cheapest int64, budgets ...int) {
	t.Helper()
	for _, budget := range budgets {
		if cheapest < 0 {
			checkError(t, p, budget, api.ErrNothing)
			continue
		}
		r := best(t, p, budget)
		if r.Cost < cheapest || r.Sure && r.Cost != cheapest {
			t.Fatalf("Best(%v, %d) = %v, but the cheapest costs %d", p, budget, r, cheapest)
		}
		if budget >= choices(p) && !r.Sure {
			t.Fatalf("Best(%v, %d) = %v, of %d choices", p, budget, r, choices(p))
		}
	}
}

// P20.1, P20.2: for many small problems, by few looks and by as many as there are choices.
func TestSmallProblems(t *testing.T) {
	r := rand.New(rand.NewSource(20))
	for range 6000 {
		p := smallProblem(r)
		n := choices(p)
		checkBudgets(t, p, cheapest(p), 0, 1, 2, 3, 5, n/4, n/2, n-1, n, n+1, api.MaxBudget)
	}
}

// P20.1, P20.2: each budget from none to more than all choices.
func TestEachBudget(t *testing.T) {
	r := rand.New(rand.NewSource(21))
	for range 300 {
		p := smallProblem(r)
		least := cheapest(p)
		for budget := range min(choices(p), 300) + 2 {
			checkBudgets(t, p, least, budget)
		}
	}
}

// evens are lots that all cost what they are worth, an even number: what is needed is odd, so nothing tells ahead that one more has to be paid.
func evens(units ...int) lots.Problem {
	p := lots.Problem{Caps: free()}
	for i, n := range units {
		v := int64(2 * (i + 5))
		p.Lots = append(p.Lots, lot(n, v, v, 0))
	}
	p.Need = lots.Most(p)/2 | 1
	return p
}

// P20.2: as many looks as choices are always enough, where few can be left out, too.
func TestAsManyAsAllChoices(t *testing.T) {
	for _, units := range [][]int{
		{1}, {9}, {api.MaxUnits}, {1, 1}, {0, 3, 0, 3}, {315, 315}, {api.MaxUnits, 98}, {98, api.MaxUnits}, {45, 45, 45},
		{9, 9, 9, 9, 9}, {1, 1, 1, 1, 1, 1, 1, 1}, {3, 3, 3, 3, 3, 3, 3, 3}, {0, 1, 2, 3, 4, 5, 6, 7}, {4, 0, 4, 0, 4, 0, 4, 0}, {15, 1, 15, 1, 15, 1}, {9, 9, 9, 9, 4, 1},
	} {
		p := evens(units...)
		if choices(p) > api.MaxBudget {
			t.Fatal(units, choices(p))
		}
		least := cheapest(p)
		checkBudgets(t, p, least, 0, 1, choices(p)/2, choices(p)-1, choices(p), api.MaxBudget)
		if all, err := alloc.All(p); err != nil || !all.Sure || all.Cost != least {
			t.Errorf("All(%v) = %v, %v, want %d", p, all, err, least)
		}
	}
}

// P20.1: what is not found out is not sure: one look is no proof that of so many choices none is cheaper than the greedy one.
func TestNotFoundOut(t *testing.T) {
	p := problem(11, free(), lot(5, 4, 40, 0), lot(5, 3, 31, 0))
	if r := best(t, p, 0); r.Sure && r.Cost != 111 || r.Looked != 0 {
		t.Errorf("Best(%v, 0) = %v", p, r)
	}
	p = evens(1000, 999, 998, 997, 996, 995, 994, 993) // far more choices than MaxBudget
	for _, budget := range []int{0, 1, 999, api.MaxBudget} {
		if r := best(t, p, budget); r.Sure && r.Cost != p.Need+1 {
			t.Errorf("Best(%v, %d) = %v", p, budget, r)
		}
	}
	if all, err := alloc.All(p); err != nil || !same(all, best(t, p, api.MaxBudget)) {
		t.Errorf("All(%v) = %v, %v", p, all, err)
	}
}

// twoLots is what the cheapest of a problem of two lots costs: for each number of the first the fewest of the other one, found by halves.
func twoLots(p lots.Problem) int64 {
	least := int64(-1)
	for first := range p.Lots[0].Units + 1 {
		from, to := 0, p.Lots[1].Units+1
		for from < to {
			half := (from + to) / 2
			if lots.Fits(p, first, half) {
				to = half
			} else {
				from = half + 1
			}
		}
		if cost, ok := lots.Cost(p, first, from); ok && (least < 0 || cost < least) {
			least = cost
		}
	}
	return least
}

// P20.1: of great numbers too nothing is cheaper than what is sure.
func TestTwoGreatLots(t *testing.T) {
	r := rand.New(rand.NewSource(22))
	for range 400 {
		p := problem(0, []int64{r.Int63n(2) * r.Int63n(top+1), r.Int63n(2) * r.Int63n(top+1)})
		for range 2 {
			p.Lots = append(p.Lots, lot(api.MaxUnits-r.Intn(200), each-r.Int63n(each), each-r.Int63n(each), r.Intn(2)))
		}
		if r.Intn(2) == 0 {
			p.Lots[1].Value = max(0, p.Lots[0].Value-r.Int63n(3))
			p.Lots[1].Cost = max(0, p.Lots[0].Cost-r.Int63n(3))
		}
		p.Need = min(top, r.Int63n(lots.Most(p)+1))
		checkBudgets(t, p, twoLots(p), 0, 1, 10, 1000, api.MaxBudget)
	}
}

// byTable is what the cheapest costs, told lot by lot, for each worth of the group at hand and of all groups ahead.
func byTable(p lots.Problem) int64 {
	const none = 1 << 60
	need := int(p.Need)
	all := make([]int64, need+1) // the least that costs that counts so much, or more, up to need
	for w := range all[1:] {
		all[w+1] = none
	}
	for g, most := range p.Caps {
		if most == 0 {
			most = p.Need
		}
		group := make([]int64, need+1)
		for w := range group[1:] {
			group[w+1] = none
		}
		for _, l := range p.Lots {
			if l.Group == g {
				for range l.Units {
					for w := need; w > 0; w-- {
						group[w] = min(group[w], group[max(0, w-int(l.Value))]+l.Cost)
					}
				}
			}
		}
		for w := need; w > 0; w-- {
			for part := range min(w, int(most)) + 1 {
				all[w] = min(all[w], all[w-part]+group[part])
			}
		}
	}
	return all[need]
}

// P20.1: many units of many lots, with caps: what is sure is the cheapest, told another way.
func TestAgainstTable(t *testing.T) {
	r := rand.New(rand.NewSource(23))
	for range 400 {
		p := lots.Problem{Caps: make([]int64, 1+r.Intn(4))}
		for range 3 + r.Intn(6) {
			v := 1 + r.Int63n(30)
			p.Lots = append(p.Lots, lot(r.Intn(30), v, v*3+r.Int63n(20), r.Intn(len(p.Caps))))
		}
		for g := range p.Caps {
			p.Caps[g] = r.Int63n(2) * r.Int63n(400)
		}
		p.Need = r.Int63n(min(lots.Most(p), 900) + 1)
		least := byTable(p)
		checkBudgets(t, p, least, 0, 3, 50, api.MaxBudget)
	}
}

// This is no promise, but a search that is seldom sure of great problems would be of little use.
func TestSeldomUnsure(t *testing.T) {
	r := rand.New(rand.NewSource(25))
	looked := 0
	for range 200 {
		p := lots.Problem{Caps: make([]int64, 3)}
		for range api.MaxLots {
			p.Lots = append(p.Lots, lot(1+r.Intn(api.MaxUnits), 1+r.Int63n(100_000), r.Int63n(10_000), r.Intn(3)))
		}
		for g := range p.Caps {
			p.Caps[g] = r.Int63n(lots.Most(p) + 1)
		}
		p.Need = r.Int63n(lots.Most(p) + 1)
		all := best(t, p, api.MaxBudget)
		if !all.Sure {
			t.Errorf("Best(%v) = %v", p, all)
		}
		looked += all.Looked
	}
	if looked > 200*200 {
		t.Errorf("%d choices were looked at", looked)
	}
}

// P0.5: the same is answered again.
func TestSameAgain(t *testing.T) {
	r := rand.New(rand.NewSource(24))
	for range 200 {
		p := smallProblem(r)
		for _, budget := range []int{0, 3, api.MaxBudget} {
			one, err := alloc.Best(p, budget)
			two, again := alloc.Best(p, budget)
			if err != again || !same(one, two) {
				t.Fatalf("Best(%v, %d) = %v, %v, and then %v, %v", p, budget, one, err, two, again)
			}
		}
	}
}
