package book

import (
	"slices"

	"pledge/api"
	"pledge/op"
)

// base is the currency whose rate no operation sets.
const base = 1

// things is all that a ledger has but its lists, by kind.
func (g *ledger) things() []api.Op {
	return slices.Concat(g.parties(), g.listed(), g.rules(), g.held())
}

// put sets a thing in a ledger that lacks it.
func (g *ledger) put(thing api.Op) error {
	switch thing.Kind {
	case op.Deposit:
		return g.holdings.Put(api.Spot{Member: thing.A, Asset: thing.B}, thing.N)
	case op.Tick:
		g.today = int(thing.N)
		return nil
	}
	return g.set(thing)
}

// parties is the members.
func (g *ledger) parties() []api.Op {
	var l []api.Op
	for _, member := range g.joined() {
		p := g.members[member]
		l = append(l, api.Op{Kind: op.Join, A: member, B: p.own, N: p.need})
	}
	return l
}

// listed is the assets, the prices and the rates.
func (g *ledger) listed() []api.Op {
	var l []api.Op
	for _, a := range g.assets.All() {
		l = append(l, api.Op{Kind: op.Asset, A: a.ID, B: a.Issuer, C: a.Class, D: a.Money, N: int64(a.End)})
	}
	for id, price := range g.prices {
		if price != 0 {
			l = append(l, api.Op{Kind: op.Price, A: id, N: price})
		}
	}
	for _, currency := range g.rates.All() {
		if rate, _ := g.rates.Get(currency); currency != base {
			l = append(l, api.Op{Kind: op.Rate, A: currency, N: rate})
		}
	}
	return l
}

// rules is the cuts, the schedule and the limits.
func (g *ledger) rules() []api.Op {
	var l []api.Op
	for _, s := range g.cuts.All() {
		l = append(l, api.Op{Kind: op.Cut, A: s.Class, B: s.Bucket, N: g.cuts.Get(s)})
	}
	if bp := g.cuts.Fx(); bp != 0 {
		l = append(l, api.Op{Kind: op.FxCut, N: bp})
	}
	for _, e := range g.schedule.All() {
		on := 0
		if e.On {
			on = 1
		}
		l = append(l, api.Op{Kind: op.Elig, A: e.Class, B: e.Day, C: on})
	}
	for _, limit := range g.limits.All() {
		l = append(l, api.Op{Kind: op.Cap, A: limit.What, B: limit.ID, N: g.limits.Get(limit)})
	}
	return l
}

// held is the holdings, today, the rebates and the losses.
func (g *ledger) held() []api.Op {
	var l []api.Op
	for _, h := range g.holdings.All() {
		l = append(l, api.Op{Kind: op.Deposit, A: h.Spot.Member, B: h.Spot.Asset, N: h.Qty})
	}
	if g.today != 0 {
		l = append(l, api.Op{Kind: op.Tick, N: int64(g.today)})
	}
	for currency, bp := range g.rebates {
		if bp != 0 {
			l = append(l, api.Op{Kind: op.Rebate, A: currency, N: bp})
		}
	}
	for _, c := range g.losses.All() {
		l = append(l, api.Op{Kind: op.Scene, A: c.Scene, B: c.Member, N: g.losses.Get(c)})
	}
	return l
}
