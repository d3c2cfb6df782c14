package book_test

import (
	"strconv"
	"strings"
	"testing"

	"pledge/api"
	"pledge/op"
)

// P26.1: what is no operation is refused first, then a number that was done.
func TestDoAheadOfKinds(t *testing.T) {
	d := newDesk(t)
	d.do("join 1 0 7")
	for _, x := range []struct {
		o    api.Op
		want error
	}{
		{api.Op{}, api.ErrRange},
		{api.Op{Kind: op.Join, A: 2}, api.ErrRange},
		{api.Op{ID: -1, Kind: op.Join, A: 2}, api.ErrRange},
		{api.Op{ID: 1<<40 + 1, Kind: op.Join, A: 2}, api.ErrRange},
		{api.Op{ID: 2}, api.ErrKind},
		{api.Op{ID: 2, Kind: 17}, api.ErrKind},
		{api.Op{ID: 2, Kind: -1}, api.ErrKind},
		{api.Op{ID: 2, Kind: op.Join, A: -1}, api.ErrRange},
		{api.Op{ID: 2, Kind: op.Join, A: 2, C: 1}, api.ErrRange},
		{api.Op{ID: 2, Kind: op.Join, A: 2, N: -1}, api.ErrRange},
		{api.Op{ID: 2, Kind: op.Join, A: 2, N: api.MaxMoney + 1}, api.ErrRange},
		{api.Op{ID: 2, Kind: op.FxCut, A: 1}, api.ErrRange},
		// Of a number that was done.
		{api.Op{ID: 1, Kind: 17}, api.ErrKind},
		{api.Op{ID: 1, Kind: op.Join, A: 2, D: 1}, api.ErrRange},
		{api.Op{ID: 1, Kind: op.Join, A: 2}, api.ErrTwice},
		{api.Op{ID: 1, Kind: op.Join, A: 1, N: 7}, api.ErrTwice},
		{api.Op{ID: 1, Kind: op.Join, A: 33}, api.ErrTwice},
		{api.Op{ID: 1, Kind: op.Tick}, api.ErrTwice},
	} {
		d.refuses(x.o, x.want)
	}
}

// P26.1: MaxOps are done, and not one more.
func TestDoMany(t *testing.T) {
	d := newDesk(t)
	for n := range api.MaxOps {
		if n%1000 == 7 { // what was refused does not count
			d.fails("join 33 0 0", api.ErrRange)
		}
		d.do("fxcut " + strconv.Itoa(n))
	}
	d.fails("fxcut 1", api.ErrMany)
	d.fails("join 33 0 0", api.ErrMany)
	d.fails("withdraw 1 1 1", api.ErrMany)
	d.refuses(api.Op{ID: 1, Kind: op.FxCut, N: 5}, api.ErrTwice)
	d.refuses(api.Op{ID: 1 << 39, Kind: 17}, api.ErrKind)
	if b := again(t, d.Book); !b.Done(1) || b.Done(8) || !b.Done(9) || !b.Done(api.MaxOps+4) || b.Done(api.MaxOps+7) {
		t.Error("Done")
	}
}

// P26.1: join.
func TestJoin(t *testing.T) {
	d := newDesk(t)
	d.fails("join 0 0 0", api.ErrRange)
	d.fails("join 33 0 0", api.ErrRange)
	d.fails("join 1048576 0 0", api.ErrRange)
	d.fails("join 1 33 0", api.ErrRange)
	d.answers("join 32 32 1000000000000000", 0, api.MaxMoney)
	d.answers("join 1 0 0", 0, 0)
	d.fails("join 1 0 0", api.ErrThere)
	d.fails("join 32 1 5", api.ErrThere)
	d.fails("join 1 33 0", api.ErrRange)
	d.answers("join 2 32 5", 0, 5)
}

// P26.1: asset.
func TestAsset(t *testing.T) {
	d := newDesk(t)
	for _, text := range []string{"0 0 2 1 0", "33 0 2 1 0", "1 33 2 1 0", "1 0 0 1 0", "1 0 7 1 0", "1 0 2 0 0", "1 0 2 7 0",
		"1 0 2 1 40001", "1 0 2 1 1000000000000000", "1 0 2 1 4294967296", "1 1 1 1 0", "1 0 1 1 5"} {
		d.fails("asset "+text, api.ErrRange)
	}
	d.answers("asset 32 32 6 6 40000", 0, 0)
	d.answers("asset 1 0 1 1 0", 0, 0)
	d.fails("asset 1 0 1 1 0", api.ErrThere)
	d.fails("asset 1 2 2 2 0", api.ErrThere)
	d.fails("asset 1 0 7 1 0", api.ErrRange)
	d.fails("asset 1 0 2 1 40001", api.ErrRange)
}

// P26.1: price.
func TestPrice(t *testing.T) {
	d := opened(t)
	d.fails("price 0 5", api.ErrNone)
	d.fails("price 6 5", api.ErrNone)
	d.fails("price 33 5", api.ErrNone)
	d.fails("price 6 0", api.ErrNone)
	d.fails("price 1 5", api.ErrBarred)
	d.fails("price 2 0", api.ErrBarred)
	d.fails("price 3 0", api.ErrRange)
	d.fails("price 3 1000000001", api.ErrRange)
	d.do("deposit 2 3 100")
	d.answers("price 3 1", 0, 0)
	d.has(2, 0)
	d.answers("price 3 1000000000", 0, 0)
	d.has(2, 10000000)
}

// P26.1: rate, cut, fxcut.
func TestRatesAndCuts(t *testing.T) {
	d := opened(t)
	for _, text := range []string{"rate 0 5", "rate 1 5", "rate 7 5", "rate 2 0", "rate 2 1000000001", "rate 1 1000000",
		"cut 0 0 5", "cut 7 0 5", "cut 1 6 5", "cut 1 0 10001", "fxcut 10001"} {
		d.fails(text, api.ErrRange)
	}
	d.do("deposit 4 2 1000000")
	d.has(4, 1500000)
	d.answers("rate 2 1000000000", 0, 0)
	d.has(4, 1000000000)
	d.answers("rate 2 1", 0, 0)
	d.has(4, 1)
	d.do("rate 2 1000000")
	d.answers("cut 1 0 100", 0, 0)
	d.has(4, 990000)
	d.answers("fxcut 200", 0, 0)
	d.has(4, 970000)
	d.answers("cut 1 0 10000", 0, 0)
	d.has(4, 0)
	d.answers("cut 1 0 0", 0, 0)
	d.answers("fxcut 10000", 0, 0)
	d.has(4, 0)
	d.answers("fxcut 0", 0, 0)
	d.has(4, 1000000)
	d.do("rate 6 1", "cut 6 5 10000")
}

// P26.1: elig.
func TestElig(t *testing.T) {
	d := opened(t)
	for _, text := range []string{"0 5 1", "7 5 1", "1 40001 1", "1 5 2", "1 5 1048576", "7 5 2"} {
		d.fails("elig "+text, api.ErrRange)
	}
	d.do("deposit 2 3 100")
	d.answers("elig 2 0 0", 0, 0)
	d.has(2, 0)
	d.answers("elig 2 0 1", 0, 0)
	d.has(2, 100)
	for day := range api.MaxEntries - 3 {
		d.answers("elig 6 "+strconv.Itoa(40000-day)+" 0", 0, 0)
	}
	d.fails("elig 6 5 1", api.ErrMany)
	d.fails("elig 6 5 2", api.ErrRange)
	d.fails("elig 6 40001 1", api.ErrRange)
	d.answers("elig 6 40000 1", 0, 0)
}

// P26.1: cap, rebate, need.
func TestLimits(t *testing.T) {
	d := opened(t)
	for _, text := range []string{"cap 0 1 5", "cap 4 1 5", "cap 1 0 5", "cap 1 7 5", "cap 2 7 5", "cap 3 33 5", "cap 3 0 5",
		"rebate 0 5", "rebate 7 5", "rebate 1 10001"} {
		d.fails(text, api.ErrRange)
	}
	for _, text := range []string{"need 0 5", "need 3 5", "need 33 5", "need 1048576 5"} {
		d.fails(text, api.ErrNone)
	}
	d.do("deposit 2 1 40")
	d.answers("need 2 50", 0, 10)
	d.answers("need 2 40", 0, 0)
	d.answers("need 2 1000000000000000", 0, api.MaxMoney-40)
	d.answers("cap 1 1 30", 0, 0)
	d.answers("need 2 50", 0, 20)
	d.answers("need 2 0", 0, 0)
	d.do("cap 3 32 1000000000000000", "cap 2 6 1", "cap 1 6 1", "rebate 1 10000", "rebate 6 0")
}

// P26.1: deposit, its errors in their order.
func TestDeposit(t *testing.T) {
	d := opened(t)
	d.do("asset 6 5 4 1 0", "asset 7 5 2 1 1", "tick 1")
	for _, x := range []struct {
		text string
		want error
	}{
		{"0 1 5", api.ErrNone}, {"3 1 5", api.ErrNone}, {"33 1 5", api.ErrNone}, {"3 1 0", api.ErrNone},
		{"1 0 5", api.ErrNone}, {"1 8 5", api.ErrNone}, {"1 33 5", api.ErrNone}, {"1 8 0", api.ErrNone}, {"3 8 0", api.ErrNone},
		{"1 1 0", api.ErrRange}, {"1 1 1000000000001", api.ErrRange}, {"1 1 1000000000000000", api.ErrRange},
		{"1 5 0", api.ErrRange}, {"1 3 0", api.ErrRange}, {"2 7 0", api.ErrRange},
		{"2 5 5", api.ErrBarred}, {"1 6 5", api.ErrBarred}, {"2 7 5", api.ErrBarred}, {"1 7 5", api.ErrBarred},
		{"1 3 5", api.ErrBreach},
	} {
		d.fails("deposit "+x.text, x.want)
	}
	d.answers("deposit 2 3 99", 0, 1)
	d.answers("deposit 2 3 1", 0, 0)
	d.answers("deposit 1 4 1", 0, 0)
	d.answers("deposit 4 1 1000000000000", 0, 0)
	d.fails("deposit 4 1 1", api.ErrOver)
	d.fails("deposit 4 1 1000000000000", api.ErrOver)
	d.do("tick 399")
	d.fails("deposit 2 3 1", api.ErrBarred)
}

// P26.1: withdraw, its errors in their order.
func TestWithdraw(t *testing.T) {
	d := opened(t)
	d.do("deposit 2 1 60", "deposit 2 3 50")
	for _, x := range []struct {
		text string
		want error
	}{
		{"3 1 5", api.ErrNone}, {"0 1 5", api.ErrNone}, {"3 1 0", api.ErrNone}, {"2 6 5", api.ErrNone}, {"2 6 0", api.ErrNone}, {"2 0 5", api.ErrNone},
		{"2 1 0", api.ErrRange}, {"2 1 1000000000001", api.ErrRange},
		{"2 1 61", api.ErrShort}, {"2 2 1", api.ErrShort}, {"2 1 1000000000000", api.ErrShort}, {"1 1 1", api.ErrShort},
		{"2 1 11", api.ErrNeed}, {"2 1 60", api.ErrNeed}, {"2 3 11", api.ErrNeed},
	} {
		d.fails("withdraw "+x.text, x.want)
	}
	d.answers("withdraw 2 1 4", 0, 0)
	d.answers("withdraw 2 3 6", 0, 0)
	d.fails("withdraw 2 1 1", api.ErrNeed)
	d.do("need 2 101")
	d.fails("withdraw 2 1 1", api.ErrBound)
	d.fails("withdraw 2 1 56", api.ErrBound)
	d.fails("withdraw 2 1 57", api.ErrShort)
	d.fails("withdraw 2 1 0", api.ErrRange)
	d.fails("withdraw 2 9 1", api.ErrNone)
	// Who is bound may not take what counts for nothing.
	d.do("need 2 56", "elig 2 0 0")
	d.answers("withdraw 2 3 4", 0, 0)
	d.do("need 2 57")
	d.fails("withdraw 2 3 1", api.ErrBound)
	d.do("need 2 0")
	d.answers("withdraw 2 3 40", 0, 0)
	d.answers("withdraw 2 1 56", 0, 0)
	if len(d.Holdings(2)) > 0 || d.Sum(1) != 0 || d.Sum(3) != 0 {
		t.Error(d.Holdings(2), d.Sum(1), d.Sum(3))
	}
}

// P26.1: exchange, its errors in their order.
func TestExchange(t *testing.T) {
	d := opened(t)
	d.do("asset 6 5 4 1 0", "asset 7 0 2 1 1", "tick 1", "deposit 2 1 100", "deposit 1 1 10", "deposit 4 3 1000000000000", "deposit 4 1 10")
	for _, x := range []struct {
		text string
		want error
	}{
		{"3 1 2 1 1", api.ErrNone}, {"2 8 2 1 1", api.ErrNone}, {"2 1 8 1 1", api.ErrNone}, {"2 0 2 1 1", api.ErrNone},
		{"3 1 1 0 0", api.ErrNone}, {"2 8 8 0 0", api.ErrNone}, {"2 1 0 0 1", api.ErrNone},
		{"2 1 2 0 1", api.ErrRange}, {"2 1 2 1 0", api.ErrRange}, {"2 1 2 1000000000001 1", api.ErrRange}, {"2 1 2 1 1000000000001", api.ErrRange},
		{"2 1 1 1 1", api.ErrRange}, {"2 5 5 1 1", api.ErrRange}, {"2 1 5 0 1", api.ErrRange}, {"1 1 3 1 0", api.ErrRange},
		{"2 1 5 101 1", api.ErrBarred}, {"2 1 7 101 1", api.ErrBarred}, {"1 1 6 1 1", api.ErrBarred},
		{"1 1 3 11 1", api.ErrBreach}, {"1 2 3 1 1", api.ErrBreach},
		{"2 1 2 101 1", api.ErrShort}, {"2 2 1 1 1000000000000", api.ErrShort}, {"4 1 3 11 1", api.ErrShort},
		{"4 1 3 10 1", api.ErrOver}, {"4 1 3 1 1000000000000", api.ErrOver},
		{"2 1 2 100 66", api.ErrNeed}, {"2 1 2 1 0", api.ErrRange}, {"2 1 3 2 1", api.ErrNeed},
	} {
		d.fails("exchange "+x.text, x.want)
	}
	d.answers("exchange 2 1 2 100 67", 0, 0)
	d.has(2, 100)
	d.fails("exchange 2 2 3 2 1", api.ErrNeed)
	d.answers("exchange 2 2 3 2 3", 0, 0)
	d.has(2, 100)
	if d.Sum(1) != 20 || d.Sum(2) != 65 || d.Sum(3) != 1000000000003 {
		t.Error(d.Sum(1), d.Sum(2), d.Sum(3))
	}
	// Who is bound may not change anything either, though nothing would lack behind it.
	d.do("need 2 102")
	d.fails("exchange 2 2 3 1 1000", api.ErrBound)
	d.fails("exchange 2 2 3 66 1000", api.ErrShort)
	d.do("need 4 1000000000000000")
	d.fails("exchange 4 1 3 1 1", api.ErrOver)
	d.fails("exchange 4 1 2 1 1", api.ErrBound)
	d.do("need 2 100")
	d.answers("exchange 2 3 1 2 3", 0, 0)
	d.do("need 2 0")
	d.answers("exchange 2 2 1 65 1", 0, 0)
	d.has(2, 5)
}

// P26.1: the days of a tick.
func TestTickDays(t *testing.T) {
	d := newDesk(t)
	d.fails("tick 0", api.ErrDay)
	d.fails("tick 40001", api.ErrDay)
	d.fails("tick 1000000000000000", api.ErrDay)
	d.answers("tick 1", 0, 0)
	d.fails("tick 40000", api.ErrDay)
	d.answers("tick 39998", 0, 0)
	d.fails("tick 2", api.ErrDay)
	d.answers("tick 1", 0, 0)
	d.fails("tick 0", api.ErrDay)
	d.fails("tick 1", api.ErrDay)
	if d.Today() != 40000 {
		t.Error(d.Today())
	}
}

// P26.1: interest: of each holding of cash its own, down, by its currency's rebate.
func TestTick(t *testing.T) {
	d := opened(t)
	d.do("asset 6 0 1 2 0", "elig 1 0 1", "deposit 2 1 1000", "deposit 4 1 999", "deposit 4 2 1000", "deposit 1 6 500", "deposit 2 3 5000")
	d.answers("tick 5", 0, 0)
	d.do("rebate 1 3600", "rebate 2 720", "rebate 3 10000")
	d.answers("tick 1", 1, 0) // of 1000 just 1; of 999, of the second currency, and of what is no cash nothing
	d.do("rebate 1 0")
	d.answers("tick 10", 3, 0) // of the second currency 2 and 1
	for asset, want := range []int64{0, 1, 2, 0, 0, 0, 1} {
		if n := d.Posted(asset); n != want {
			t.Errorf("Posted(%d) = %d, want %d", asset, n, want)
		}
	}
	if d.Sum(1) != 2000 || d.Sum(2) != 1002 || d.Sum(3) != 5000 || d.Sum(6) != 501 {
		t.Error(d.Sum(1), d.Sum(2), d.Sum(3), d.Sum(6))
	}
	// What is not eligible has its interest too; it is posted where it went, whoever takes it then.
	d.do("elig 1 0 0", "rebate 1 10000", "withdraw 4 2 1002", "rebate 2 0", "need 2 0")
	d.answers("tick 360", 1001+999, 0)
	d.do("withdraw 2 1 2002", "withdraw 4 1 1998")
	if d.Sum(1) != 0 || d.Posted(1) != 2001 || d.Posted(2) != 2 || d.Today() != 376 {
		t.Error(d.Sum(1), d.Posted(1), d.Posted(2), d.Today())
	}
}

// P26.1: no interest, and nothing with it, may be above MaxQty.
func TestTickOver(t *testing.T) {
	d := opened(t)
	d.do("rebate 1 10000", "deposit 2 1 500000000000", "deposit 4 2 1000000000000")
	d.fails("tick 361", api.ErrOver) // with what is there
	d.fails("tick 721", api.ErrOver) // by itself
	d.fails("tick 40000", api.ErrOver)
	d.fails("tick 40001", api.ErrDay)
	d.answers("tick 360", 500000000000, 0)
	if d.Sum(1) != api.MaxQty || d.Posted(1) != 500000000000 {
		t.Error(d.Sum(1), d.Posted(1))
	}
	d.fails("tick 1", api.ErrOver)
	d.do("rebate 1 0")
	d.answers("tick 1", 0, 0)
}

// P26.1: scene.
func TestScene(t *testing.T) {
	d := opened(t)
	for _, text := range []string{"0 2 5", "17 2 5", "1 0 5", "1 33 5", "0 3 5"} {
		d.fails("scene "+text, api.ErrRange)
	}
	d.fails("scene 1 3 5", api.ErrNone)
	d.fails("scene 16 32 0", api.ErrNone)
	d.answers("scene 1 2 1000000000000000", 0, 0)
	d.answers("scene 16 2 500", 0, 0)
	d.answers("scene 1 2 0", 0, 0)
	d.answers("fund 0 1000", 400, 0)
	if f := d.Fund(); f.Scene != 16 {
		t.Errorf("%+v", f)
	}
}

// P26.1: the fund, by what is needed up to the greatest member.
func TestFund(t *testing.T) {
	d := newDesk(t)
	d.fails("fund 6 5", api.ErrRange)
	d.answers("fund 5 7", 5, 0)
	if f := d.Fund(); f.Floor != 5 || f.Cap != 7 || f.Target != 5 || f.Scene != 1 || len(f.Shares) > 0 {
		t.Errorf("%+v", f)
	}
	d.do("join 4 0 30", "join 2 0 10", "scene 3 4 90", "scene 3 2 45", "scene 2 2 100")
	for _, x := range []struct {
		text   string
		target int64
		shares [4]int64
	}{
		{"fund 0 1000", 95, [4]int64{0, 24, 0, 71}},
		{"fund 96 1000", 96, [4]int64{0, 24, 0, 72}},
		{"fund 0 94", 94, [4]int64{0, 24, 0, 70}},
		{"fund 0 0", 0, [4]int64{}},
	} {
		d.answers(x.text, x.target, 0)
		if f := d.Fund(); f.Target != x.target || f.Scene != 3 || [4]int64(f.Shares) != x.shares {
			t.Errorf("%s: %+v", x.text, f)
		}
	}
	// It is what it was sized to, whatever comes behind that.
	d.do("fund 0 1000", "join 7 0 0", "need 4 0", "scene 3 4 0")
	if f := d.Fund(); f.Target != 95 || f.Floor != 0 || f.Cap != 1000 || f.Scene != 3 || [4]int64(f.Shares) != [4]int64{0, 24, 0, 71} {
		t.Errorf("%+v", f)
	}
	d.fails("fund 6 5", api.ErrRange)
	// Of members that need nothing all have the same share, those too that are not there.
	d.do("need 2 0")
	d.answers("fund 0 100", 100, 0)
	if f := d.Fund(); f.Scene != 2 || [7]int64(f.Shares) != [7]int64{15, 15, 14, 14, 14, 14, 14} {
		t.Errorf("%+v", f)
	}
	d.do("need 2 1000000000000000", "scene 1 4 1000000000000000", "scene 1 7 1")
	d.fails("fund 0 5", api.ErrOver) // the losses
	d.do("need 7 1")
	d.fails("fund 0 5", api.ErrOver) // what is needed
	d.fails("fund 6 5", api.ErrRange)
	d.do("need 2 999999999999999")
	d.answers("fund 0 5", 5, 0)
}

// P26.1: what makes that it can't be told what some member has is refused, whatever its kind.
// A unit of assets 6 and 7 is worth 1000, so that all of one of them is worth MaxMoney.
func TestOver(t *testing.T) {
	for _, x := range []struct{ ahead, fails, does string }{
		{"deposit 2 6 999999999999; deposit 2 3 1000", "price 3 10010", "price 3 10009"},
		{"deposit 2 6 1000000000000; elig 2 0 0", "price 6 10000001", "price 6 10000000"}, // it counts for nothing
		{"deposit 2 7 1000000000000", "rate 2 1000001", "rate 2 1000000"},
		{"cut 2 5 1; deposit 2 6 1000000000000; deposit 2 1 100000000000", "cut 2 5 0", "cut 2 5 2"},
		{"fxcut 1; deposit 2 7 1000000000000; deposit 2 1 100000000000", "fxcut 0", "fxcut 2"},
		{"deposit 2 6 1000000000000; elig 2 0 0; deposit 2 1 1", "elig 2 0 1", "elig 3 0 0"},
		{"cap 1 2 5; deposit 2 6 1000000000000; deposit 2 1 1", "cap 1 2 0", "cap 1 2 999999999999999"},
		{"cap 1 2 5; deposit 2 6 1000000000000; deposit 2 1 1", "cap 1 2 1000000000000000", "cap 1 2 6"},
		{"deposit 2 6 999999999999; deposit 2 1 999", "deposit 2 1 2", "deposit 2 1 1"},
		{"deposit 2 6 1000000000000", "exchange 2 6 1 1 1001", "exchange 2 6 1 1 1000"},
		{"deposit 2 6 999999999999; deposit 2 1 999; rebate 1 3600", "tick 3", "tick 1"},
		{"deposit 2 6 1000000000000; elig 2 0 0; deposit 2 1 1; elig 2 5 1", "tick 5", "tick 4"},
		{"deposit 2 6 999999999999; deposit 2 1 1000; price 8 1; deposit 2 8 1", "price 8 10000", "price 8 9999"},
	} {
		d := opened(t)
		d.do("need 2 0", "asset 6 0 2 1 0", "asset 7 0 2 2 0", "asset 8 0 3 1 0", "rate 2 1000000", "price 6 10000000", "price 7 10000000")
		d.do(strings.Split(x.ahead, "; ")...)
		d.fails(x.fails, api.ErrOver)
		d.do(x.does)
	}
}

// P26.1: who is bound is told so ahead of that.
func TestBoundAheadOfOver(t *testing.T) {
	d := opened(t)
	d.do("asset 6 0 2 1 0", "price 6 10000000", "deposit 2 6 999999999999", "deposit 2 1 900", "need 2 1000000000000000")
	d.fails("exchange 2 1 2 1 2000", api.ErrBound)
	d.do("need 2 999999999999900")
	d.fails("exchange 2 1 2 1 2000", api.ErrOver)
	d.fails("exchange 2 1 2 1 0", api.ErrRange)
}
