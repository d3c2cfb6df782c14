package alloc

import (
	"pledge/api"
	"pledge/fix"
	"pledge/lots"
)

// state is what a choice of some lots has come to.
type state struct {
	cost int64
	left int64              // what is still needed
	room [api.MaxLots]int64 // what each group may still count
}

// nothingChosen is the state ahead of all lots.
func nothingChosen(p lots.Problem) state {
	c := state{left: p.Need}
	for g, most := range p.Caps {
		if most == 0 { // no limit: more than what is needed is never asked of it
			most = p.Need
		}
		c.room[g] = most
	}
	return c
}

// with is the state behind so many units of l.
func (c state) with(l api.Lot, units int) state {
	gain := min(int64(units)*l.Value, c.room[l.Group])
	c.cost += int64(units) * l.Cost
	c.left -= gain
	c.room[l.Group] -= gain
	return c
}

// useful is how many units of l may be taken till one more would add nothing to what is needed.
func (c state) useful(l api.Lot) int {
	gain := min(c.left, c.room[l.Group])
	units := (gain + l.Value - 1) / l.Value
	return int(min(units, int64(l.Units)))
}

// least is what a choice costs at least that goes on with some of l, the cheapest first; false, if all of them are not enough.
// It takes parts of units too, and of those it is the cheapest.
func (c state) least(l []api.Lot) (int64, bool) {
	for _, a := range l {
		if c.left <= 0 {
			break
		}
		gain := min(int64(a.Units)*a.Value, c.room[a.Group], c.left)
		// Only the last one is cut up: it costs a whole number in all, but several parts cut up may be more than that.
		cost, _ := fix.Div(gain, a.Cost, a.Value, gain == c.left)
		c.cost += cost
		c.left -= gain
		c.room[a.Group] -= gain
	}
	return c.cost, c.left <= 0
}
