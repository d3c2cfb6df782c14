package cert_test

import (
	"math/big"
	"math/rand"
	"slices"
	"testing"

	"pledge/alloc"
	"pledge/api"
	"pledge/cert"
	"pledge/lots"
)

// drawn is a small problem, mostly one that can be done.
func drawn(r *rand.Rand) lots.Problem {
	p := problem(int64(r.Intn(40)), make([]int64, 1+r.Intn(3)))
	for g := range p.Caps {
		p.Caps[g] = int64(r.Intn(2) * r.Intn(30))
	}
	for range 1 + r.Intn(3) {
		p.Lots = append(p.Lots, lot(r.Intn(4), int64(r.Intn(10)), int64(r.Intn(9)), r.Intn(len(p.Caps))))
	}
	return p
}

// tries calls f with each list of numbers of -1 to one more than each lot's Units, and with lists too short and too long.
func tries(p lots.Problem, f func(take []int)) {
	var grow func(take []int)
	grow = func(take []int) {
		f(slices.Clone(take))
		if len(take) == len(p.Lots) {
			f(append(slices.Clone(take), 0))
			return
		}
		for n := -1; n <= p.Lots[len(take)].Units+1; n++ {
			grow(append(take, n))
		}
	}
	grow(nil)
}

// modelWorth is worked out group by group, as chapter 18 says; false: it can't be taken.
func modelWorth(p lots.Problem, take []int) (worth, cost int64, ok bool) {
	if len(take) != len(p.Lots) {
		return 0, 0, false
	}
	for i, n := range take {
		if n < 0 || n > p.Lots[i].Units {
			return 0, 0, false
		}
		cost += int64(n) * p.Lots[i].Cost
	}
	for g, most := range p.Caps {
		var sum int64
		for i, l := range p.Lots {
			if l.Group == g {
				sum += int64(take[i]) * l.Value
			}
		}
		if most > 0 && sum > most {
			sum = most
		}
		worth += sum
	}
	return worth, cost, true
}

// modelFits is whether it can be taken, and is worth Need.
func modelFits(p lots.Problem, take []int) bool {
	worth, _, ok := modelWorth(p, take)
	return ok && worth >= p.Need
}

// modelLeast is the least whole number that is not below Need at the rate of any lot that counts; false: there is no such lot.
func modelLeast(p lots.Problem) (int64, bool) {
	var rate *big.Rat
	for _, l := range p.Lots {
		if l.Units == 0 || l.Value == 0 {
			continue
		}
		if r := big.NewRat(l.Cost, l.Value); rate == nil || r.Cmp(rate) < 0 {
			rate = r
		}
	}
	if p.Need == 0 || rate == nil {
		return 0, p.Need == 0
	}
	all := new(big.Rat).Mul(rate, big.NewRat(p.Need, 1))
	n := new(big.Int).Div(all.Num(), all.Denom()).Int64()
	if !all.IsInt() {
		n++
	}
	return n, true
}

// modelCheck is Check of a valid problem.
func modelCheck(p lots.Problem, r alloc.Result) error {
	worth, cost, ok := modelWorth(p, r.Take)
	if !ok || r.Worth != worth || r.Cost != cost {
		return api.ErrShape
	}
	if worth < p.Need {
		return api.ErrNeed
	}
	return nil
}

// modelSwap is Swap of a valid problem.
func modelSwap(p lots.Problem, take []int) []int {
	if !modelFits(p, take) {
		return nil
	}
	_, was, _ := modelWorth(p, take)
	for i := range take {
		less := slices.Clone(take)
		less[i]--
		if _, cost, _ := modelWorth(p, less); modelFits(p, less) && cost <= was {
			return less
		}
	}
	return nil
}

// P21.1: each call, of each Take that there may be and of many that there may not, is what is worked out from the words.
func TestAsTheModel(t *testing.T) {
	r := rand.New(rand.NewSource(21))
	fits, none := 0, 0
	for range 500 {
		p := drawn(r)
		least, is := modelLeast(p)
		tries(p, func(take []int) {
			worth, cost, _ := modelWorth(p, take)
			for _, x := range []alloc.Result{result(worth, cost, take...), result(worth+1, cost, take...), result(worth, cost-1, take...)} {
				want := modelCheck(p, x)
				if want != nil {
					none++
					checkError(t, p, x, want)
					continue
				}
				fits++
				if !is || least > cost {
					t.Fatalf("%v: %v fits, and costs less than the bound %d, %v", p, x, least, is)
				}
				checkGap(t, p, x, cost-least)
			}
			checkSwap(t, p, modelSwap(p, take), take...)
		})
		if t.Failed() {
			t.Fatalf("of %v", p)
		}
	}
	if fits < 1000 || none < 1000 {
		t.Errorf("only %d were right, %d wrong", fits, none)
	}
}

// P21.1: nothing that fits costs less than the Gap says that it may.
func TestGapHolds(t *testing.T) {
	r := rand.New(rand.NewSource(22))
	for range 300 {
		p := drawn(r)
		cheapest, dearest := int64(-1), int64(-1)
		var last alloc.Result
		tries(p, func(take []int) {
			worth, cost, _ := modelWorth(p, take)
			if !modelFits(p, take) {
				return
			}
			if cheapest < 0 || cost < cheapest {
				cheapest = cost
			}
			if cost > dearest {
				dearest, last = cost, result(worth, cost, take...)
			}
		})
		if cheapest < 0 {
			continue
		}
		if n, err := cert.Gap(p, last); err != nil || n < dearest-cheapest {
			t.Fatalf("Gap(%v, %v) = %d, %v, but %d fits", p, last, n, err, cheapest)
		}
	}
}

// P21.1: what alloc finds is right, by any budget; if its Gap is 0 nothing is cheaper.
func TestWhatIsFound(t *testing.T) {
	r := rand.New(rand.NewSource(23))
	for range 1000 {
		p := drawn(r)
		all, err := alloc.All(p)
		if err != nil {
			continue
		}
		for _, budget := range []int{0, 1, 2, 5, api.MaxBudget} {
			x, _ := alloc.Best(p, budget)
			n, err := cert.Gap(p, x)
			if cert.Check(p, x) != nil || err != nil || n < 0 || n > x.Cost || n == 0 && x.Cost != all.Cost {
				t.Fatalf("Gap(%v, %v) = %d, %v; the cheapest is %v", p, x, n, err, all)
			}
		}
	}
}
