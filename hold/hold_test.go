package hold_test

import (
	"math"
	"slices"
	"testing"

	"pledge/api"
	"pledge/hold"
)

func spot(member, asset int) api.Spot { return api.Spot{Member: member, Asset: asset} }

func has(member, asset int, qty int64) api.Holding {
	return api.Holding{Spot: spot(member, asset), Qty: qty}
}

func put(t *testing.T, h *hold.Holdings, s api.Spot, qty int64, want error) {
	t.Helper()
	if err := h.Put(s, qty); err != want {
		t.Errorf("Put(%v, %d) = %v, want %v", s, qty, err, want)
	}
}

func take(t *testing.T, h *hold.Holdings, s api.Spot, qty int64, want error) {
	t.Helper()
	if err := h.Take(s, qty); err != want {
		t.Errorf("Take(%v, %d) = %v, want %v", s, qty, err, want)
	}
}

func checkGet(t *testing.T, h *hold.Holdings, s api.Spot, want int64) {
	t.Helper()
	if got := h.Get(s); got != want {
		t.Errorf("Get(%v) = %d, want %d", s, got, want)
	}
}

func checkOf(t *testing.T, h *hold.Holdings, member int, want ...api.Holding) {
	t.Helper()
	if got := h.Of(member); !slices.Equal(got, want) {
		t.Errorf("Of(%d) = %v, want %v", member, got, want)
	}
}

func checkAll(t *testing.T, h *hold.Holdings, want ...api.Holding) {
	t.Helper()
	if got := h.All(); !slices.Equal(got, want) {
		t.Errorf("All() = %v, want %v", got, want)
	}
}

func checkSum(t *testing.T, h *hold.Holdings, asset int, want int64) {
	t.Helper()
	if got := h.Sum(asset); got != want {
		t.Errorf("Sum(%d) = %d, want %d", asset, got, want)
	}
}

// plain is holdings told another way: how much, by member and asset.
type plain [api.MaxMember + 1][api.MaxAsset + 1]int64

// check asks h for all that it has, which is to be just what p has.
func (p *plain) check(t *testing.T, h *hold.Holdings) {
	t.Helper()
	var all []api.Holding
	var sums [api.MaxAsset + 1]int64
	for member := range p {
		var of []api.Holding
		for asset, qty := range p[member] {
			sums[asset] += qty
			checkGet(t, h, spot(member, asset), qty)
			if qty != 0 {
				of = append(of, has(member, asset, qty))
			}
		}
		checkOf(t, h, member, of...)
		all = append(all, of...)
	}
	checkAll(t, h, all...)
	for asset, sum := range sums {
		checkSum(t, h, asset, sum)
	}
}

// made is holdings that have all that p has.
func (p *plain) made(t *testing.T) *hold.Holdings {
	t.Helper()
	h := &hold.Holdings{}
	for member := range p {
		for asset, qty := range p[member] {
			if qty != 0 {
				put(t, h, spot(member, asset), qty, nil)
			}
		}
	}
	return h
}

// full is another quantity at each spot.
func full() *plain {
	p := &plain{}
	for member := 1; member <= api.MaxMember; member++ {
		for asset := 1; asset <= api.MaxAsset; asset++ {
			p[member][asset] = int64(1000*member + asset)
		}
	}
	return p
}

// wrongNumbers are numbers of no member and of no asset; some would be one in fewer bits.
func wrongNumbers() []int {
	return []int{0, -1, -2, -32, api.MaxMember + 1, api.MaxMember + 2, 64, 128 + 1, 256 + 2, 1<<16 + 2, 1<<32 + 1, 1<<32 + 2, 2 - 1<<32, math.MinInt, math.MinInt + 2, math.MaxInt - 1, math.MaxInt}
}

// wrongSpots are spots that there are none of: the one number is wrong, the other, or both.
func wrongSpots() []api.Spot {
	var list []api.Spot
	for _, n := range wrongNumbers() {
		for _, right := range []int{1, 2, 32} {
			list = append(list, spot(n, right), spot(right, n))
		}
		for _, m := range wrongNumbers() {
			list = append(list, spot(n, m))
		}
	}
	return list
}

// wrongQtys are numbers that can't be put or taken; some could be in fewer bits.
func wrongQtys() []int64 {
	return []int64{0, -1, -2, -5, -api.MaxQty, api.MaxQty + 1, api.MaxQty + 2, 2 * api.MaxQty, 1<<40 + 1, 1 - 1<<40, 1<<48 + 1, math.MinInt64, math.MinInt64 + 1, math.MinInt64 + 5, math.MaxInt64 - 1, math.MaxInt64}
}

// P14.1: the zero value has nothing, and nothing can be taken from it: the example.
func TestNothing(t *testing.T) {
	var h hold.Holdings
	(&plain{}).check(t, &h)
	for member := 1; member <= api.MaxMember; member++ {
		for asset := 1; asset <= api.MaxAsset; asset++ {
			for _, qty := range []int64{1, 5, api.MaxQty} {
				take(t, &h, spot(member, asset), qty, api.ErrShort)
			}
		}
	}
	(&plain{}).check(t, &h)
	(&plain{}).check(t, new(hold.Holdings))
	(&plain{}).check(t, h.Clone())
}

// P14.1: each spot is one of its own: what is put there is there, and nowhere else.
func TestEachSpot(t *testing.T) {
	for member := 1; member <= api.MaxMember; member++ {
		for asset := 1; asset <= api.MaxAsset; asset++ {
			var h hold.Holdings
			put(t, &h, spot(member, asset), 7, nil)
			checkAll(t, &h, has(member, asset, 7))
			for other := 1; other <= max(api.MaxMember, api.MaxAsset); other++ {
				if other == member {
					checkOf(t, &h, other, has(member, asset, 7))
				} else {
					checkOf(t, &h, other)
					checkGet(t, &h, spot(other, asset), 0)
				}
				if other == asset {
					checkSum(t, &h, other, 7)
				} else {
					checkSum(t, &h, other, 0)
					checkGet(t, &h, spot(member, other), 0)
				}
			}
			take(t, &h, spot(member, asset), 7, nil)
			(&plain{}).check(t, &h)
		}
	}
	full().check(t, full().made(t))
}

// P14.1: Put adds to what is there, up to MaxQty and no more.
func TestPut(t *testing.T) {
	for _, x := range []struct {
		there, more int64
		err         error
	}{
		{1, 1, nil},
		{5, 6, nil},
		{1, api.MaxQty - 1, nil},
		{1, api.MaxQty, api.ErrOver},
		{2, api.MaxQty - 1, api.ErrOver},
		{api.MaxQty - 1, 1, nil},
		{api.MaxQty - 1, 2, api.ErrOver},
		{api.MaxQty / 2, api.MaxQty / 2, nil},
		{api.MaxQty/2 + 1, api.MaxQty / 2, api.ErrOver},
		{api.MaxQty, 1, api.ErrOver},
		{api.MaxQty, api.MaxQty, api.ErrOver},
	} {
		var h hold.Holdings
		put(t, &h, spot(3, 4), x.there, nil)
		put(t, &h, spot(3, 4), x.more, x.err)
		want := x.there
		if x.err == nil {
			want += x.more
		}
		checkGet(t, &h, spot(3, 4), want)
		checkAll(t, &h, has(3, 4, want))
		checkSum(t, &h, 4, want)
		put(t, &h, spot(4, 4), api.MaxQty, nil) // a spot's room is its own
		put(t, &h, spot(3, 3), api.MaxQty, nil)
		checkAll(t, &h, has(3, 3, api.MaxQty), has(3, 4, want), has(4, 4, api.MaxQty))
	}
}

// P14.1: Take takes from what is there, all of it at most.
func TestTake(t *testing.T) {
	for _, x := range []struct {
		there, less int64
		err         error
	}{
		{1, 1, nil},
		{1, 2, api.ErrShort},
		{1, api.MaxQty, api.ErrShort},
		{7, 1, nil},
		{7, 6, nil},
		{7, 7, nil},
		{7, 8, api.ErrShort},
		{api.MaxQty, 1, nil},
		{api.MaxQty, api.MaxQty - 1, nil},
		{api.MaxQty, api.MaxQty, nil},
		{api.MaxQty - 1, api.MaxQty - 1, nil},
		{api.MaxQty - 1, api.MaxQty, api.ErrShort},
	} {
		p := &plain{}
		p[3][4], p[3][5], p[4][4] = x.there, api.MaxQty, api.MaxQty // what others have, and what it has of another, is not taken
		h := p.made(t)
		take(t, h, spot(3, 4), x.less, x.err)
		if x.err == nil {
			p[3][4] -= x.less
		}
		p.check(t, h)
		take(t, h, spot(3, 4), p[3][4]+1, api.ErrShort)
		p.check(t, h)
	}
}

// P14.1: what was taken whole may be put again.
func TestPutAgain(t *testing.T) {
	var h hold.Holdings
	for _, qty := range []int64{1, api.MaxQty, 5, api.MaxQty - 1} {
		for range 3 {
			put(t, &h, spot(1, 32), qty, nil)
			checkAll(t, &h, has(1, 32, qty))
			take(t, &h, spot(1, 32), qty, nil)
			(&plain{}).check(t, &h)
			take(t, &h, spot(1, 32), 1, api.ErrShort)
		}
	}
}

// P14.1: what is out of its range is neither put nor taken, and leaves all as it was.
func TestWrong(t *testing.T) {
	for _, p := range []*plain{full(), {}} {
		h := p.made(t)
		for _, s := range wrongSpots() {
			for _, qty := range append(wrongQtys(), 1, 5, api.MaxQty) {
				put(t, h, s, qty, api.ErrRange)
				take(t, h, s, qty, api.ErrRange)
			}
			checkGet(t, h, s, 0)
		}
		for member := 1; member <= api.MaxMember; member++ {
			for asset := 1; asset <= api.MaxAsset; asset++ {
				for _, qty := range wrongQtys() {
					put(t, h, spot(member, asset), qty, api.ErrRange)
					take(t, h, spot(member, asset), qty, api.ErrRange)
				}
			}
		}
		for _, n := range wrongNumbers() {
			checkOf(t, h, n)
			checkSum(t, h, n, 0)
		}
		p.check(t, h)
	}
}

// P0.2: that a number is out of its range is told ahead of too much and of too little.
func TestWrongFirst(t *testing.T) {
	p := &plain{}
	p[1][1], p[32][32] = api.MaxQty, 1
	h := p.made(t)
	for _, qty := range []int64{api.MaxQty + 1, math.MaxInt64, math.MinInt64, 0} {
		for _, s := range []api.Spot{spot(1, 1), spot(32, 32), spot(2, 2)} {
			put(t, h, s, qty, api.ErrRange)
			take(t, h, s, qty, api.ErrRange)
		}
	}
	p.check(t, h)
}

// P14.1: a sum is over all members, the greatest too, and of the one asset alone.
func TestSum(t *testing.T) {
	p := &plain{}
	for member := 1; member <= api.MaxMember; member++ {
		p[member][9] = api.MaxQty
		p[member][10] = int64(member)
	}
	h := p.made(t)
	checkSum(t, h, 9, api.MaxMember*api.MaxQty)
	checkSum(t, h, 10, api.MaxMember*(api.MaxMember+1)/2)
	checkSum(t, h, 8, 0)
	checkSum(t, h, 11, 0)
	for member := 1; member <= api.MaxMember; member++ {
		take(t, h, spot(member, 9), api.MaxQty, nil)
		checkSum(t, h, 9, int64(api.MaxMember-member)*api.MaxQty)
	}
	checkSum(t, h, 10, api.MaxMember*(api.MaxMember+1)/2)
}

// P14.1, P0.5: Of is by asset, and All by member, then asset, in whatever order they were put.
func TestOrder(t *testing.T) {
	want := []api.Holding{has(1, 2, 9), has(1, 31, 8), has(2, 1, 7), has(2, 10, 6), has(10, 1, 5), has(10, 2, 4), has(32, 1, 3), has(32, 32, 2)}
	for turn := range len(want) {
		turned := append(slices.Clone(want[turn:]), want[:turn]...)
		for range 2 {
			var h hold.Holdings
			for _, x := range turned {
				put(t, &h, x.Spot, x.Qty, nil)
			}
			checkAll(t, &h, want...)
			checkOf(t, &h, 1, want[:2]...)
			checkOf(t, &h, 2, want[2:4]...)
			checkOf(t, &h, 10, want[4:6]...)
			checkOf(t, &h, 32, want[6:]...)
			checkOf(t, &h, 3)
			slices.Reverse(turned)
		}
	}
}

// P14.1: for long scripts of calls each answer and all that may be asked are what the words say.
func TestAsTheWordsSay(t *testing.T) {
	step := uint64(1)
	next := func(n uint64) uint64 {
		step = step*6364136223846793005 + 1442695040888963407
		return step >> 33 % n
	}
	for range 20 {
		h, p := &hold.Holdings{}, &plain{}
		for range 400 {
			s := spot(1+int(next(3)), 1+int(next(4)))
			qty := []int64{1, 2, 3, 5, api.MaxQty - 3, api.MaxQty / 2, api.MaxQty}[next(7)]
			there := &p[s.Member][s.Asset]
			switch putting := next(2) == 0; {
			case putting && *there+qty > api.MaxQty:
				put(t, h, s, qty, api.ErrOver)
			case putting:
				put(t, h, s, qty, nil)
				*there += qty
			case *there < qty:
				take(t, h, s, qty, api.ErrShort)
			default:
				take(t, h, s, qty, nil)
				*there -= qty
			}
			checkGet(t, h, s, *there)
			checkSum(t, h, s.Asset, p[1][s.Asset]+p[2][s.Asset]+p[3][s.Asset])
		}
		p.check(t, h)
	}
}
