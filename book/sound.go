package book

import (
	"slices"

	"pledge/api"
	"pledge/asset"
	"pledge/fund"
	"pledge/money"
	"pledge/op"
	"pledge/share"
)

const (
	cash = 1   // the class of cash
	year = 360 // days in which cash brings all of itself, at the greatest rebate
)

// isSound is whether as many operations as were done may have come to what the book has. It
// asks what holds of every book, not for the operations themselves.
func (b *Book) isSound() bool {
	g := b.now
	made := len(g.things())
	if g.fund.Scene != 0 {
		made++
	}
	return made <= len(b.done) && areNumbers(b.done) && g.today <= api.MaxDay &&
		g.areBrought() && g.arePosted() && g.isSized() && g.isTold()
}

// areNumbers is whether so many operations may have had these numbers.
func areNumbers(ids []int64) bool {
	for _, id := range ids {
		if op.Valid(api.Op{ID: id, Kind: op.FxCut}) != nil {
			return false
		}
	}
	sorted := slices.Sorted(slices.Values(ids))
	return len(ids) <= api.MaxOps && len(slices.Compact(sorted)) == len(ids)
}

// areBrought is whether each holding is a member's, of an asset that it may have brought.
func (g *ledger) areBrought() bool {
	for _, h := range g.holdings.All() {
		a, ok := g.assets.Get(h.Spot.Asset)
		if !ok || !g.isMember(h.Spot.Member) || g.isOwn(h.Spot.Member, a) {
			return false
		}
		if first, ok := g.first(a.Class); !ok || first > g.today || !asset.Live(a, first) {
			return false
		}
	}
	return true
}

// first is the first day of which the schedule says anything of a class: ahead of it nothing
// was brought, as no entry is ever taken out.
func (g *ledger) first(class int) (int, bool) {
	for _, e := range g.schedule.All() {
		if e.Class == class {
			return e.Day, true
		}
	}
	return 0, false
}

// arePosted is whether cash alone has interest, and no more than the days since it may have
// been brought come to.
func (g *ledger) arePosted() bool {
	first, ever := g.first(cash)
	most := int64(g.today-first) * api.MaxMember * api.MaxQty / year
	for id, n := range g.posted {
		a, _ := g.assets.Get(id)
		if n != 0 && (!asset.Cash(a) || !ever || n < 0 || n > most) {
			return false
		}
	}
	return true
}

// isSized is whether the fund, if there is one, may have been sized among those who have joined.
func (g *ledger) isSized() bool {
	f := g.fund
	if f.Scene == 0 {
		return true
	}
	target, err := fund.Clamp(f.Target, f.Floor, f.Cap)
	if err != nil || target != f.Target || f.Scene < 1 || f.Scene > api.MaxScenes {
		return false
	}
	if len(f.Shares) == 0 { // nobody was there to lose anything
		return f.Target == f.Floor && f.Scene == 1
	}
	if f.Target == 0 && f.Cap > 0 && f.Scene > 1 { // the first scene is as good, if nothing is lost
		return false
	}
	total, err := money.Total(f.Shares...)
	return err == nil && total == f.Target && g.isMember(len(f.Shares)) && g.areSharers(f)
}

// areSharers is whether nobody has a share who was not there; unless nobody needed anything,
// then all have one.
func (g *ledger) areSharers(f fund.Fund) bool {
	for i, n := range f.Shares {
		if n != 0 && !g.isMember(i+1) {
			even, err := share.Split(f.Target, slices.Repeat([]int64{1}, len(f.Shares))...)
			return err == nil && slices.Equal(f.Shares, even)
		}
	}
	return true
}
