package book

import (
	"pledge/api"
	"pledge/asset"
	"pledge/caps"
	"pledge/cut"
	"pledge/fund"
	"pledge/fx"
	"pledge/hold"
	"pledge/lots"
	"pledge/need"
	"pledge/sched"
	"pledge/stress"
	"pledge/value"
)

// party is a member, or, where isThere is false, none.
type party struct {
	isThere bool
	own     int
	need    int64
}

// ledger is what a book has but the numbers of its operations. Members, prices, rebates and
// posted stand at the places of their members, assets and currencies; 0 is no price.
type ledger struct {
	today    int
	members  [api.MaxMember + 1]party
	assets   *asset.Master
	prices   [api.MaxAsset + 1]int64
	rates    *fx.Rates
	cuts     *cut.Ladder
	schedule *sched.Schedule
	limits   *caps.Caps
	rebates  [api.MaxMoneys + 1]int64
	holdings *hold.Holdings
	posted   [api.MaxAsset + 1]int64
	losses   *stress.Table
	fund     fund.Fund
}

func newLedger() *ledger {
	return &ledger{
		assets:   new(asset.Master),
		rates:    new(fx.Rates),
		cuts:     new(cut.Ladder),
		schedule: new(sched.Schedule),
		limits:   new(caps.Caps),
		holdings: new(hold.Holdings),
		losses:   new(stress.Table),
	}
}

// clone is a ledger that has the same, and is on its own from then on. What the layers below
// have no copy of is set anew; it was set once, so that no error comes.
func (g *ledger) clone() *ledger {
	c := newLedger()
	for _, o := range g.things() {
		_ = c.put(o)
	}
	c.posted = g.posted
	c.fund = g.fund // its shares are never written to
	return c
}

func (g *ledger) isMember(member int) bool {
	return member >= 0 && member < len(g.members) && g.members[member].isThere
}

// joined is the members, rising.
func (g *ledger) joined() []int {
	var list []int
	for member, p := range g.members {
		if p.isThere {
			list = append(list, member)
		}
	}
	return list
}

// needs is what members 1, 2, .. need, up to the greatest member; of who is not there 0.
func (g *ledger) needs() []int64 {
	var list []int64
	for _, member := range g.joined() {
		for len(list) < member-1 {
			list = append(list, 0)
		}
		list = append(list, g.members[member].need)
	}
	return list
}

// terms is what the worth of an asset hangs on, if that member holds it.
func (g *ledger) terms(a api.Asset, member int) value.Terms {
	rate, _ := g.rates.Get(a.Money)
	return value.Terms{
		Today: g.today,
		Own:   g.members[member].own,
		On:    g.schedule.On(a.Class, g.today),
		Price: g.prices[a.ID],
		Rate:  rate,
		Cut:   g.cuts.Of(a, g.today),
	}
}

// state is what a member needs, and what it has; an error, if that can't be told.
func (g *ledger) state(member int) (need.State, error) {
	var lines []caps.Line
	for _, h := range g.holdings.Of(member) {
		a, _ := g.assets.Get(h.Spot.Asset)
		w, err := value.Of(a, h.Qty, g.terms(a, member))
		if err != nil {
			return need.State{}, err
		}
		lines = append(lines, caps.Line{Class: a.Class, Money: a.Money, Issuer: a.Issuer, Value: w.Value})
	}
	have, err := g.limits.Sum(lines...)
	if err != nil {
		return need.State{}, err
	}
	return need.State{Need: g.members[member].need, Have: have}, nil
}

// isTold is whether it can be told of all members what they have.
func (g *ledger) isTold() bool {
	for _, member := range g.joined() {
		if _, err := g.state(member); err != nil {
			return false
		}
	}
	return true
}

// problem is what lots of so much of a member's assets could come to what it needs, and which
// assets these are.
func (g *ledger) problem(member int, lot int64) (lots.Problem, []int) {
	p := lots.Problem{Need: g.members[member].need}
	for class := 1; class <= api.MaxClass; class++ {
		p.Caps = append(p.Caps, g.limits.Get(caps.Limit{What: caps.Class, ID: class}))
	}
	var assets []int
	for _, h := range g.holdings.Of(member) {
		a, _ := g.assets.Get(h.Spot.Asset)
		w, err := value.Of(a, lot, g.terms(a, member))
		if err != nil || w.Value == 0 || len(assets) == api.MaxLots {
			continue
		}
		units := int(min(h.Qty/lot, api.MaxUnits))
		p.Lots = append(p.Lots, api.Lot{Units: units, Value: w.Value, Cost: w.Base - w.Value, Group: a.Class - 1})
		assets = append(assets, a.ID)
	}
	return p, assets
}

func isQty(n int64) bool { return 1 <= n && n <= api.MaxQty }
