package book_test

import (
	"reflect"
	"slices"
	"strconv"
	"testing"

	"pledge/alloc"
	"pledge/api"
	"pledge/book"
	"pledge/lots"
)

// lotsAre asks for what Lots answers.
func lotsAre(t *testing.T, b *book.Book, member int, lot int64, want lots.Problem, assets ...int) {
	t.Helper()
	p, ids, err := b.Lots(member, lot)
	if !reflect.DeepEqual(p, want) || !slices.Equal(ids, assets) || err != nil {
		t.Errorf("Lots(%d, %d) = %+v, %v, %v, want %+v, %v", member, lot, p, ids, err, want, assets)
	}
}

// lotsFail asks for an error, and nothing beside it.
func lotsFail(t *testing.T, b *book.Book, member int, lot int64, want error) {
	t.Helper()
	if p, ids, err := b.Lots(member, lot); !reflect.DeepEqual(p, lots.Problem{}) || ids != nil || err != want {
		t.Errorf("Lots(%d, %d) = %+v, %v, %v, want %v", member, lot, p, ids, err, want)
	}
}

// P26.2: the lots of what counts for something, by asset.
func TestLots(t *testing.T) {
	d := opened(t)
	d.do("cut 2 2 1000", "cut 2 3 500", "fxcut 2000", "cap 1 2 700", "cap 2 1 5", "cap 3 5 6", "cap 1 6 1000000000000",
		"deposit 2 1 95", "deposit 2 2 100", "deposit 2 3 7009", "deposit 2 4 5", "deposit 4 4 8")
	limits := []int64{0, 700, 0, 0, 0, 1000000000000}
	lotsAre(t, d.Book, 2, 10, lots.Problem{
		Lots: []api.Lot{{Units: 9, Value: 10}, {Units: 10, Value: 12, Cost: 3}, {Units: 700, Value: 9, Cost: 1, Group: 1}, {Value: 12, Cost: 3, Group: 2}},
		Caps: limits, Need: 100,
	}, 1, 2, 3, 4)
	lotsAre(t, d.Book, 2, 1, lots.Problem{
		Lots: []api.Lot{{Units: 95, Value: 1}},
		Caps: limits, Need: 100,
	}, 1)
	lotsAre(t, d.Book, 2, 2, lots.Problem{
		Lots: []api.Lot{{Units: 47, Value: 2}, {Units: 50, Value: 2, Cost: 1}, {Units: 1000, Value: 1, Cost: 1, Group: 1}, {Units: 2, Value: 2, Cost: 1, Group: 2}},
		Caps: limits, Need: 100,
	}, 1, 2, 3, 4)
	d.do("need 2 0", "elig 1 0 0", "tick 1", "cut 3 5 8000")
	lotsAre(t, d.Book, 2, 5000, lots.Problem{
		Lots: []api.Lot{{Units: 1, Value: 4750, Cost: 250, Group: 1}},
		Caps: limits,
	}, 3)
	d.do("tick 100")
	lotsAre(t, d.Book, 2, 7009, lots.Problem{
		Lots: []api.Lot{{Units: 1, Value: 6308, Cost: 701, Group: 1}},
		Caps: limits,
	}, 3)
	d.do("tick 299")
	lotsFail(t, d.Book, 2, 1, api.ErrMany)
}

// P26.2: the errors of Lots, in their order.
func TestLotsErrors(t *testing.T) {
	d := opened(t)
	d.do("deposit 2 1 5", "deposit 2 3 5", "need 2 0")
	for _, member := range []int{-1, 0, 3, 33} {
		for _, lot := range []int64{-1, 0, 1, api.MaxQty + 1} {
			lotsFail(t, d.Book, member, lot, api.ErrNone)
		}
	}
	for _, lot := range []int64{-1 << 63, -1, 0, api.MaxQty + 1, 1<<63 - 1} {
		lotsFail(t, d.Book, 2, lot, api.ErrRange)
		lotsFail(t, d.Book, 4, lot, api.ErrRange)
	}
	lotsFail(t, d.Book, 4, 1, api.ErrMany)
	lotsFail(t, d.Book, 2, api.MaxQty, api.ErrRange) // a value that no lot may have
	lotsFail(t, d.Book, 2, 1000000001, api.ErrRange)
	d.do("withdraw 2 1 5", "price 3 100000000")
	lotsFail(t, d.Book, 2, 100001, api.ErrRange)
	lotsFail(t, d.Book, 2, api.MaxQty, api.ErrMany) // its worth can't be told
	d.do("cut 2 3 9999")
	lotsFail(t, d.Book, 2, 100011, api.ErrRange) // a cost that no lot may have
	if p, _, err := d.Lots(2, 100010); err != nil || p.Lots[0] != (api.Lot{Value: 100010, Cost: 999999990, Group: 1}) {
		t.Error(p, err)
	}
	d.do("cut 2 3 0", "price 3 10000", "cap 1 6 1000000000001")
	lotsFail(t, d.Book, 2, 1, api.ErrRange)
	d.do("cap 1 6 1000000000000", "need 2 1000000000001")
	lotsFail(t, d.Book, 2, 1, api.ErrRange)
	d.do("need 2 1000000000000")
	if _, ids, err := d.Lots(2, 1); err != nil || !slices.Equal(ids, []int{3}) {
		t.Error(ids, err)
	}
}

// P26.2: only the first MaxLots that count for something, and what they may be used for.
func TestLotsOfMany(t *testing.T) {
	d := newDesk(t)
	d.do("join 1 0 100", "elig 1 0 1", "elig 2 0 1")
	for n := 1; n <= 12; n++ {
		asset := strconv.Itoa(n)
		if n%4 == 2 { // it has no price
			d.do("asset "+asset+" 0 2 1 0", "deposit 1 "+asset+" 50")
			continue
		}
		d.do("asset "+asset+" 0 1 1 0", "deposit 1 "+asset+" 5")
		want := []int{1, 3, 4, 5, 7, 8, 9, 11, 12}
		if i := slices.Index(want, n); i >= 0 {
			want = want[:min(i+1, api.MaxLots)]
		}
		p, ids, err := d.Lots(1, 2)
		if err != nil || !slices.Equal(ids, want) || len(p.Lots) != len(want) {
			t.Fatal(n, p, ids, err)
		}
		for _, l := range p.Lots {
			if l != (api.Lot{Units: 2, Value: 2}) {
				t.Error(l)
			}
		}
	}
	d.do("need 1 30")
	p, _, err := d.Lots(1, 1)
	if r, fault := alloc.All(p); err != nil || fault != nil || r.Worth != 30 || r.Cost != 0 {
		t.Error(err, fault, r)
	}
}
