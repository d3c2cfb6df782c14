package alloc

import (
	"slices"

	"pledge/api"
	"pledge/fix"
	"pledge/lots"
)

// branch is where units of a lot are chosen: the most that are useful first, then one less each time.
type branch struct {
	ahead state // what is chosen of the lots ahead
	most  int
	units int // how many are tried now
}

// search goes through the choices, lot by lot.
type search struct {
	list   []api.Lot // those that add anything, the cheapest for what they are worth first
	places []int     // where each of these stands in the problem
	stack  []branch  // one for each lot of which units are tried now
	best   []int     // the cheapest choice that was met
	cost   int64     // what it costs
	looked int
	budget int
}

func newSearch(p lots.Problem, budget int) *search {
	s := &search{places: cheapestFirst(p.Lots), best: firstChoice(p), budget: budget}
	for _, i := range s.places {
		s.list = append(s.list, p.Lots[i])
	}
	s.cost, _ = lots.Cost(p, s.best...)
	return s
}

// firstChoice is one that is enough, ahead of all search.
func firstChoice(p lots.Problem) []int {
	if take, ok := lots.Greedy(p); ok {
		return take
	}
	all := make([]int, len(p.Lots))
	for i, l := range p.Lots {
		all[i] = l.Units
	}
	return all
}

// cheapestFirst are the places of the lots that add anything, those that cost less for what they are worth first.
func cheapestFirst(l []api.Lot) []int {
	var places []int
	for i, a := range l {
		if a.Units > 0 && a.Value > 0 {
			places = append(places, i)
		}
	}
	slices.SortStableFunc(places, func(i, j int) int {
		return fix.Cmp(l[i].Cost, l[j].Value, l[j].Cost, l[i].Value)
	})
	return places
}

// run looks at choices until none that is left may be cheaper; false, if the budget is spent ahead of that.
func (s *search) run(start state) bool {
	if !s.mayBeCheaper(start) {
		return true
	}
	s.push(start)
	for len(s.stack) > 0 {
		if !s.step() {
			return false
		}
	}
	return true
}

// step tries the next number of units of the lot on top of the stack; false, if the budget is spent.
// Where that ends a choice, or nothing cheaper can begin so, one is looked at: so no choice is met twice, and the looks are no more than the choices.
func (s *search) step() bool {
	at := len(s.stack) - 1
	b := &s.stack[at]
	b.units--
	if b.units < 0 {
		s.pop()
		return true
	}
	c := b.ahead.with(s.list[at], b.units)
	cheaper := s.mayBeCheaper(c)
	if cheaper && c.left > 0 {
		s.push(c)
		return true
	}
	if s.looked == s.budget {
		return false
	}
	s.looked++
	if cheaper {
		s.keep(c)
	} else if b.units < b.most {
		// Below the most each unit counts in full, and no later lot gives as much for less: with fewer it is no cheaper.
		s.pop()
	}
	return true
}

// mayBeCheaper: a choice that goes on from c, with lots behind those on the stack, may be cheaper than the best one.
func (s *search) mayBeCheaper(c state) bool {
	cost, ok := c.least(s.list[len(s.stack):])
	return ok && cost < s.cost
}

// keep makes what is tried now the best choice.
func (s *search) keep(c state) {
	s.cost = c.cost
	clear(s.best)
	for i, b := range s.stack {
		s.best[s.places[i]] = b.units
	}
}

func (s *search) push(c state) {
	most := c.useful(s.list[len(s.stack)])
	s.stack = append(s.stack, branch{ahead: c, most: most, units: most + 1})
}

func (s *search) pop() { s.stack = s.stack[:len(s.stack)-1] }
