package book_test

import (
	"maps"
	"math/big"
	"slices"

	"pledge/api"
	"pledge/book"
	"pledge/fund"
	"pledge/lots"
	"pledge/need"
	"pledge/op"
	"pledge/stress"
)

type who struct {
	own  int
	need int64
}

// model is the ledger by the chapter's words: tables, and what they come to.
type model struct {
	today   int
	members map[int]who
	assets  map[int]api.Asset
	prices  map[int]int64
	rates   map[int]int64
	cuts    map[[2]int]int64 // class, bucket
	fxcut   int64
	elig    map[[2]int]bool // class, day
	caps    map[[2]int]int64
	rebates map[int]int64
	has     map[[2]int]int64 // member, asset
	posted  map[int]int64
	losses  map[[2]int]int64 // scene, member
	fund    fund.Fund
	done    map[int64]bool
}

func newModel() *model {
	return &model{
		members: map[int]who{}, assets: map[int]api.Asset{}, prices: map[int]int64{}, rates: map[int]int64{1: 1000000},
		cuts: map[[2]int]int64{}, elig: map[[2]int]bool{}, caps: map[[2]int]int64{}, rebates: map[int]int64{},
		has: map[[2]int]int64{}, posted: map[int]int64{}, losses: map[[2]int]int64{}, done: map[int64]bool{},
	}
}

func (m *model) copied() *model {
	c := *m
	c.members, c.assets, c.prices, c.rates = maps.Clone(m.members), maps.Clone(m.assets), maps.Clone(m.prices), maps.Clone(m.rates)
	c.cuts, c.elig, c.caps, c.rebates = maps.Clone(m.cuts), maps.Clone(m.elig), maps.Clone(m.caps), maps.Clone(m.rebates)
	c.has, c.posted, c.losses, c.done = maps.Clone(m.has), maps.Clone(m.posted), maps.Clone(m.losses), maps.Clone(m.done)
	return &c
}

// fault is an error, and whether it holds.
type fault struct {
	holds bool
	err   error
}

// first is the first error that holds.
func first(l ...fault) error {
	for _, f := range l {
		if f.holds {
			return f.err
		}
	}
	return nil
}

func out(n, low, high int64) bool { return n < low || n > high }

// do is P26.1.
func (m *model) do(o api.Op) (book.Reply, error) {
	if err := op.Valid(o); err != nil {
		return book.Reply{}, err
	}
	if m.done[o.ID] {
		return book.Reply{}, api.ErrTwice
	}
	if len(m.done) >= api.MaxOps {
		return book.Reply{}, api.ErrMany
	}
	next := m.copied()
	amount, err := next.kind(o)
	if err != nil {
		return book.Reply{}, err
	}
	for member := range next.members {
		if _, ok := next.have(member); !ok {
			return book.Reply{}, api.ErrOver
		}
	}
	next.done[o.ID] = true
	*m = *next
	r := book.Reply{ID: o.ID, Amount: amount}
	if slices.Contains([]int{op.Join, op.Need, op.Deposit, op.Withdraw, op.Exchange}, o.Kind) {
		r.Short = m.short(o.A)
	}
	return r, nil
}

func (m *model) kind(o api.Op) (int64, error) {
	a, b := int64(o.A), int64(o.B)
	_, isMember := m.members[o.A]
	thing, isAsset := m.assets[o.A]
	var err error
	switch o.Kind {
	case op.Join:
		err = first(fault{out(a, 1, 32) || out(b, 0, 32), api.ErrRange}, fault{isMember, api.ErrThere})
		m.members[o.A] = who{o.B, o.N}
	case op.Asset:
		bad := out(a, 1, 32) || out(b, 0, 32) || out(int64(o.C), 1, 6) || out(int64(o.D), 1, 6) || out(o.N, 0, 40000)
		err = first(fault{bad || o.C == 1 && (o.B != 0 || o.N != 0), api.ErrRange}, fault{isAsset, api.ErrThere})
		m.assets[o.A] = api.Asset{ID: o.A, Issuer: o.B, Class: o.C, Money: o.D, End: int(o.N)}
	case op.Price:
		err = first(fault{!isAsset, api.ErrNone}, fault{thing.Class == 1, api.ErrBarred}, fault{out(o.N, 1, 1000000000), api.ErrRange})
		m.prices[o.A] = o.N
	case op.Rate:
		err = first(fault{out(a, 2, 6) || out(o.N, 1, 1000000000), api.ErrRange})
		m.rates[o.A] = o.N
	case op.Cut:
		err = first(fault{out(a, 1, 6) || out(b, 0, 5) || out(o.N, 0, 10000), api.ErrRange})
		m.cuts[[2]int{o.A, o.B}] = o.N
	case op.FxCut:
		err = first(fault{out(o.N, 0, 10000), api.ErrRange})
		m.fxcut = o.N
	case op.Elig:
		_, is := m.elig[[2]int{o.A, o.B}]
		err = first(fault{out(int64(o.C), 0, 1), api.ErrRange}, fault{out(a, 1, 6) || out(b, 0, 40000), api.ErrRange}, fault{!is && len(m.elig) >= 64, api.ErrMany})
		m.elig[[2]int{o.A, o.B}] = o.C == 1
	case op.Cap:
		most := map[int]int64{1: 6, 2: 6, 3: 32}[o.A]
		err = first(fault{out(b, 1, most), api.ErrRange})
		m.caps[[2]int{o.A, o.B}] = o.N
	case op.Need:
		err = first(fault{!isMember, api.ErrNone})
		m.members[o.A] = who{m.members[o.A].own, o.N}
	case op.Rebate:
		err = first(fault{out(a, 1, 6) || out(o.N, 0, 10000), api.ErrRange})
		m.rebates[o.A] = o.N
	case op.Scene:
		_, is := m.members[o.B]
		err = first(fault{out(a, 1, 16) || out(b, 1, 32), api.ErrRange}, fault{!is, api.ErrNone})
		m.losses[[2]int{o.A, o.B}] = o.N
	case op.Deposit, op.Withdraw, op.Exchange:
		err = m.move(o)
	case op.Tick:
		return m.tick(o.N)
	case op.Fund:
		return m.size(o.N, o.M)
	}
	return 0, err
}

// move is deposit, withdraw and exchange.
func (m *model) move(o api.Op) error {
	w, isMember := m.members[o.A]
	_, isB := m.assets[o.B]
	_, isC := m.assets[o.C]
	none := !isMember || !isB || o.Kind == op.Exchange && !isC
	wrong := out(o.N, 1, 1000000000000) || o.Kind == op.Exchange && (out(o.M, 1, 1000000000000) || o.B == o.C)
	if err := first(fault{none, api.ErrNone}, fault{wrong, api.ErrRange}); err != nil {
		return err
	}
	ahead := m.short(o.A)
	into, more := [2]int{o.A, o.B}, o.N
	if o.Kind == op.Exchange {
		into, more = [2]int{o.A, o.C}, o.M
	}
	if o.Kind != op.Withdraw {
		a := m.assets[into[1]]
		if err := first(fault{!m.on(a.Class) || !m.live(a), api.ErrBarred}, fault{w.own != 0 && a.Issuer == w.own, api.ErrBreach}); err != nil {
			return err
		}
	}
	if o.Kind != op.Deposit {
		from := [2]int{o.A, o.B}
		if m.has[from] < o.N {
			return api.ErrShort
		}
		m.has[from] -= o.N
	}
	if o.Kind != op.Withdraw {
		if m.has[into]+more > 1000000000000 {
			return api.ErrOver
		}
		m.has[into] += more
	}
	if o.Kind == op.Deposit {
		return nil
	}
	return first(fault{ahead > 0, api.ErrBound}, fault{m.short(o.A) > 0, api.ErrNeed})
}

func (m *model) tick(days int64) (int64, error) {
	if days == 0 || int64(m.today)+days > 40000 {
		return 0, api.ErrDay
	}
	m.today += int(days)
	var all int64
	for at, qty := range maps.Clone(m.has) {
		a := m.assets[at[1]]
		if a.Class != 1 {
			continue
		}
		n := over(qty, m.rebates[a.Money]*days, 3600000)
		if n.Cmp(big.NewInt(1000000000000-qty)) > 0 {
			return 0, api.ErrOver
		}
		m.has[at] += n.Int64()
		m.posted[at[1]] += n.Int64()
		all += n.Int64()
	}
	return all, nil
}

func (m *model) size(floor, cap int64) (int64, error) {
	var t stress.Table
	for c, n := range m.losses {
		_ = t.Set(stress.Cell{Scene: c[0], Member: c[1]}, n)
	}
	var needs []int64
	if len(m.members) > 0 {
		needs = make([]int64, slices.Max(slices.Collect(maps.Keys(m.members))))
	}
	for member, w := range m.members {
		needs[member-1] = w.need
	}
	f, err := fund.Size(&t, floor, cap, needs...)
	if err != nil {
		return 0, err
	}
	m.fund = f
	return f.Target, nil
}

func over(a, b, c int64) *big.Int {
	n := new(big.Int).Mul(big.NewInt(a), big.NewInt(b))
	return n.Div(n, big.NewInt(c))
}

func (m *model) live(a api.Asset) bool { return a.End == 0 || a.End > m.today }

func (m *model) on(class int) bool {
	last, on := -1, false
	for at, is := range m.elig {
		if at[0] == class && at[1] <= m.today && at[1] > last {
			last, on = at[1], is
		}
	}
	return on
}

// cut is the cut of a live asset.
func (m *model) cut(a api.Asset) int64 {
	bucket := 5
	for i, days := range []int{30, 90, 365, 1095, 3650} {
		if a.End != 0 && a.End-m.today < days || a.Class == 1 {
			bucket = min(bucket, i)
		}
	}
	bp := m.cuts[[2]int{a.Class, bucket}]
	if a.Money != 1 {
		bp += m.fxcut
	}
	return min(bp, 10000)
}

// steps is what so much of an asset is worth in the base, and behind its cut; false, if that can't be told.
func (m *model) steps(a api.Asset, qty int64, own int) (int64, int64, bool) {
	worth := big.NewInt(qty)
	if a.Class != 1 {
		worth = over(qty, m.prices[a.ID], 10000)
	}
	if worth.Cmp(big.NewInt(api.MaxMoney)) > 0 {
		return 0, 0, false
	}
	base := over(worth.Int64(), m.rates[a.Money], 1000000)
	if base.Cmp(big.NewInt(api.MaxMoney)) > 0 {
		return 0, 0, false
	}
	if !m.on(a.Class) || !m.live(a) || own != 0 && a.Issuer == own {
		return base.Int64(), 0, true
	}
	return base.Int64(), over(base.Int64(), 10000-m.cut(a), 10000).Int64(), true
}

// have is what a member has; false, if that can't be told.
func (m *model) have(member int) (int64, bool) {
	sums := map[[3]int]int64{} // class, currency, issuer
	for at, qty := range m.has {
		if at[0] != member || qty == 0 {
			continue
		}
		a := m.assets[at[1]]
		_, n, ok := m.steps(a, qty, m.members[member].own)
		if !ok {
			return 0, false
		}
		sums[[3]int{a.Class, a.Money, a.Issuer}] += n
	}
	ok := true
	up := func(what, part int) {
		next := map[[3]int]int64{}
		for at, n := range sums {
			ok = ok && n <= api.MaxMoney
			if most := m.caps[[2]int{what, at[part]}]; most > 0 {
				n = min(n, most)
			}
			at[part] = 0
			next[at] += n
		}
		sums = next
	}
	up(3, 2)
	up(2, 1)
	up(1, 0)
	all := sums[[3]int{}]
	if !ok || all > api.MaxMoney {
		return 0, false
	}
	return all, true
}

// short is what a member lacks; nothing, if that can't be told.
func (m *model) short(member int) int64 {
	have, ok := m.have(member)
	if !ok {
		return 0
	}
	return max(m.members[member].need-have, 0)
}

func (m *model) state(member int) (need.State, bool) {
	w, ok := m.members[member]
	if !ok {
		return need.State{}, false
	}
	have, _ := m.have(member)
	return need.State{Need: w.need, Have: have}, true
}

func (m *model) holdings(member int) []api.Holding {
	var l []api.Holding
	for asset := 1; asset <= api.MaxAsset; asset++ {
		if qty := m.has[[2]int{member, asset}]; qty > 0 {
			l = append(l, api.Holding{Spot: api.Spot{Member: member, Asset: asset}, Qty: qty})
		}
	}
	return l
}

func (m *model) sum(asset int) int64 {
	var sum int64
	for at, qty := range m.has {
		if at[1] == asset {
			sum += qty
		}
	}
	return sum
}

// lots is Lots.
func (m *model) lots(member int, lot int64) (lots.Problem, []int, error) {
	w, ok := m.members[member]
	if err := first(fault{!ok, api.ErrNone}, fault{out(lot, 1, 1000000000000), api.ErrRange}); err != nil {
		return lots.Problem{}, nil, err
	}
	p := lots.Problem{Need: w.need}
	for class := 1; class <= 6; class++ {
		p.Caps = append(p.Caps, m.caps[[2]int{1, class}])
	}
	var ids []int
	for _, h := range m.holdings(member) {
		a := m.assets[h.Spot.Asset]
		base, n, ok := m.steps(a, lot, w.own)
		if ok && n > 0 && len(ids) < 8 {
			ids = append(ids, a.ID)
			p.Lots = append(p.Lots, api.Lot{Units: int(min(h.Qty/lot, 1000)), Value: n, Cost: base - n, Group: a.Class - 1})
		}
	}
	if err := lots.Valid(p); err != nil {
		return lots.Problem{}, nil, err
	}
	return p, ids, nil
}
