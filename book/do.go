package book

import (
	"pledge/api"
	"pledge/asset"
	"pledge/caps"
	"pledge/cut"
	"pledge/fund"
	"pledge/money"
	"pledge/need"
	"pledge/op"
	"pledge/stress"
)

// do does a valid operation, and answers the amount that it comes to. Behind an error the
// ledger may be changed in part.
func (g *ledger) do(o api.Op) (int64, error) {
	switch o.Kind {
	case op.Deposit:
		return 0, g.deposit(o)
	case op.Withdraw:
		return 0, g.withdraw(o)
	case op.Exchange:
		return 0, g.exchange(o)
	case op.Tick:
		return g.tick(o.N)
	case op.Fund:
		return g.size(o.N, o.M)
	}
	return 0, g.set(o)
}

// set does an operation of the kinds that set something, whatever was there. As it is valid, no
// number of it is below 0.
func (g *ledger) set(o api.Op) error {
	switch o.Kind {
	case op.Join:
		return g.join(o)
	case op.Asset:
		return g.list(o)
	case op.Price:
		return g.setPrice(o)
	case op.Rate:
		return g.rates.Set(o.A, o.N)
	case op.Cut:
		return g.cuts.Set(cut.Step{Class: o.A, Bucket: o.B}, o.N)
	case op.FxCut:
		return g.cuts.SetFx(o.N)
	case op.Elig:
		return g.setElig(o)
	case op.Cap:
		return g.limits.Set(caps.Limit{What: o.A, ID: o.B}, o.N)
	case op.Need:
		return g.setNeed(o)
	case op.Rebate:
		return g.setRebate(o)
	case op.Scene:
		return g.setLoss(o)
	}
	return api.ErrKind
}

// lacks is what its member lacks behind an operation of the kinds that tell it.
func (g *ledger) lacks(o api.Op) int64 {
	switch o.Kind {
	case op.Join, op.Need, op.Deposit, op.Withdraw, op.Exchange:
		s, _ := g.state(o.A)
		return need.Short(s)
	}
	return 0
}

func (g *ledger) join(o api.Op) error {
	if o.A < 1 || o.A > api.MaxMember || o.B > api.MaxIssuer {
		return api.ErrRange
	}
	if g.isMember(o.A) {
		return api.ErrThere
	}
	g.members[o.A] = party{isThere: true, own: o.B, need: o.N}
	return nil
}

func (g *ledger) list(o api.Op) error {
	if o.N > api.MaxDay { // where an int has 32 bits it might go round, and be a day
		return api.ErrRange
	}
	return g.assets.Add(api.Asset{ID: o.A, Issuer: o.B, Class: o.C, Money: o.D, End: int(o.N)})
}

func (g *ledger) setPrice(o api.Op) error {
	a, ok := g.assets.Get(o.A)
	if !ok {
		return api.ErrNone
	}
	if asset.Cash(a) {
		return api.ErrBarred
	}
	if o.N < 1 || o.N > api.MaxPrice {
		return api.ErrRange
	}
	g.prices[o.A] = o.N
	return nil
}

func (g *ledger) setElig(o api.Op) error {
	if o.C != 0 && o.C != 1 {
		return api.ErrRange
	}
	return g.schedule.Add(api.Entry{Day: o.B, Class: o.A, On: o.C == 1})
}

func (g *ledger) setNeed(o api.Op) error {
	if !g.isMember(o.A) {
		return api.ErrNone
	}
	g.members[o.A].need = o.N
	return nil
}

func (g *ledger) setRebate(o api.Op) error {
	if o.A < 1 || o.A > api.MaxMoneys || o.N > api.MaxBP {
		return api.ErrRange
	}
	g.rebates[o.A] = o.N
	return nil
}

func (g *ledger) setLoss(o api.Op) error {
	if err := g.losses.Set(stress.Cell{Scene: o.A, Member: o.B}, o.N); err != nil {
		return err
	}
	if !g.isMember(o.B) {
		return api.ErrNone
	}
	return nil
}

func (g *ledger) deposit(o api.Op) error {
	if err := g.areThere(o.A, o.B); err != nil {
		return err
	}
	if !isQty(o.N) {
		return api.ErrRange
	}
	if err := g.mayBring(o.A, o.B); err != nil {
		return err
	}
	return g.holdings.Put(api.Spot{Member: o.A, Asset: o.B}, o.N)
}

func (g *ledger) withdraw(o api.Op) error {
	if err := g.areThere(o.A, o.B); err != nil {
		return err
	}
	ahead, _ := g.state(o.A)
	if err := g.holdings.Take(api.Spot{Member: o.A, Asset: o.B}, o.N); err != nil {
		return err
	}
	return g.mayGo(o.A, ahead)
}

func (g *ledger) exchange(o api.Op) error {
	if err := g.areThere(o.A, o.B, o.C); err != nil {
		return err
	}
	if !isQty(o.N) || !isQty(o.M) || o.B == o.C {
		return api.ErrRange
	}
	if err := g.mayBring(o.A, o.C); err != nil {
		return err
	}
	ahead, _ := g.state(o.A)
	if err := g.holdings.Take(api.Spot{Member: o.A, Asset: o.B}, o.N); err != nil {
		return err
	}
	if err := g.holdings.Put(api.Spot{Member: o.A, Asset: o.C}, o.M); err != nil {
		return err
	}
	return g.mayGo(o.A, ahead)
}

// areThere: there is such a member, and there are such assets.
func (g *ledger) areThere(member int, assets ...int) error {
	if !g.isMember(member) {
		return api.ErrNone
	}
	for _, id := range assets {
		if _, ok := g.assets.Get(id); !ok {
			return api.ErrNone
		}
	}
	return nil
}

// mayBring is what stands against it that a member brings an asset today.
func (g *ledger) mayBring(member, id int) error {
	a, _ := g.assets.Get(id)
	if !g.schedule.On(a.Class, g.today) || !asset.Live(a, g.today) {
		return api.ErrBarred
	}
	if g.isOwn(member, a) {
		return api.ErrBreach
	}
	return nil
}

// isOwn is whether a member's own issuer issues an asset.
func (g *ledger) isOwn(member int, a api.Asset) bool {
	return a.Issuer != 0 && a.Issuer == g.members[member].own
}

// mayGo is what stands against it that something went from a member, by what it had ahead of
// that, and by what is left. Whether that can be told at all is asked for all members, later on.
func (g *ledger) mayGo(member int, ahead need.State) error {
	if need.Bound(ahead) {
		return api.ErrBound
	}
	if s, err := g.state(member); err == nil && need.Bound(s) {
		return api.ErrNeed
	}
	return nil
}

// tick lets days go by, and answers all interest of them.
func (g *ledger) tick(days int64) (int64, error) {
	if days == 0 || days > int64(api.MaxDay-g.today) {
		return 0, api.ErrDay
	}
	g.today += int(days)
	var all int64
	for _, h := range g.holdings.All() {
		n, err := g.post(h, days)
		if err != nil {
			return 0, err
		}
		all += n
	}
	return all, nil
}

// post puts its interest to a holding, if it is one of cash.
func (g *ledger) post(h api.Holding, days int64) (int64, error) {
	a, _ := g.assets.Get(h.Spot.Asset)
	if !asset.Cash(a) {
		return 0, nil
	}
	n, err := money.Interest(h.Qty, g.rebates[a.Money], days)
	if err != nil || n == 0 {
		return 0, err
	}
	if g.holdings.Put(h.Spot, n) != nil { // to Put, more than MaxQty would be out of its range
		return 0, api.ErrOver
	}
	g.posted[a.ID] += n
	return n, nil
}

// size sizes the fund, and answers its target.
func (g *ledger) size(floor, cap int64) (int64, error) {
	f, err := fund.Size(g.losses, floor, cap, g.needs()...)
	if err != nil {
		return 0, err
	}
	g.fund = f
	return f.Target, nil
}
