package book_test

import (
	"math/rand"
	"reflect"
	"slices"
	"testing"

	"pledge/api"
	"pledge/book"
	"pledge/op"
	"pledge/rec"
)

// drawn draws operations: mostly of few members and assets, so that they meet each other.
type drawn struct {
	*rand.Rand
	great bool // whether amounts go up to the greatest
}

func (d drawn) one(l ...int64) int64 { return l[d.Intn(len(l))] }

func (d drawn) member() int {
	if d.Intn(12) == 0 {
		return int(d.one(0, 4, 5, 31, 33))
	}
	return 1 + d.Intn(3)
}

func (d drawn) asset() int {
	if d.Intn(16) == 0 {
		return int(d.one(0, 9, 31, 33))
	}
	return 1 + d.Intn(8)
}

func (d drawn) qty() int64 {
	if d.great && d.Intn(3) > 0 {
		return d.one(1000000000000, 999999999999, 500000000000, 1000000000001, 1+d.Int63n(1000000000000), 1000000000)
	}
	return d.one(0, 1, 2, 1+d.Int63n(100), 1+d.Int63n(1000), 1+d.Int63n(1000), 1+d.Int63n(10000))
}

func (d drawn) price() int64 {
	if d.great && d.Intn(2) == 0 {
		return d.one(1000000000, 1000000001, 10000000, 9999999, 1+d.Int63n(1000000000))
	}
	return d.one(0, 1, 10000, 5000+d.Int63n(10000), 5000+d.Int63n(10000), 30000)
}

func (d drawn) amount() int64 {
	if d.great && d.Intn(2) == 0 {
		return d.one(api.MaxMoney, api.MaxMoney-1, api.MaxMoney/2, d.Int63n(api.MaxMoney))
	}
	return d.one(0, 1, d.Int63n(100), d.Int63n(2000), d.Int63n(20000))
}

// held is a place where something is, mostly, and how much may be taken from it, mostly.
func (d drawn) held(m *model) (int, int, int64) {
	member := d.member()
	l := m.holdings(member)
	if len(l) == 0 || d.Intn(8) == 0 {
		return member, d.asset(), d.qty()
	}
	h := l[d.Intn(len(l))]
	return member, h.Spot.Asset, d.one(1, 1+d.Int63n(h.Qty), 1+d.Int63n(h.Qty), h.Qty, h.Qty+1)
}

func (d drawn) op(m *model) api.Op {
	o := api.Op{Kind: 1 + d.Intn(16)}
	if d.Intn(3) > 0 { // most of what a book is of
		o.Kind = int(d.one(op.Deposit, op.Deposit, op.Deposit, op.Withdraw, op.Withdraw, op.Exchange, op.Exchange, op.Need))
	}
	switch o.Kind {
	case op.Join:
		o.A, o.B, o.N = d.member(), int(d.one(0, 0, 1, 2, 32, 33)), d.amount()
	case op.Asset:
		o.A, o.B, o.C, o.D, o.N = d.asset(), int(d.one(0, 1, 2, 3)), int(d.one(1, 2, 3, 3, 7)), int(d.one(1, 1, 2, 3)), d.one(0, 0, 30, 400, 3000, 40000, 40001)
		if d.Intn(4) > 0 && o.C == 1 {
			o.B, o.N = 0, 0
		}
	case op.Price:
		o.A, o.N = d.asset(), d.price()
	case op.Rate:
		o.A, o.N = int(d.one(1, 2, 2, 3, 7)), d.one(0, 1000000, 1500000, 900000, 1000000000)
	case op.Cut:
		o.A, o.B, o.N = int(d.one(1, 2, 3, 0, 7)), d.Intn(7), d.one(0, 1, 500, 3000, 10000, 10001)
	case op.FxCut:
		o.N = d.one(0, 1, 500, 8000, 10000, 10001)
	case op.Elig:
		o.A, o.B, o.C = int(d.one(1, 2, 3, 4, 7)), int(d.one(0, 0, 0, 5, 20, int64(d.Intn(400)), 40001)), int(d.one(0, 1, 1, 1, 2))
	case op.Cap:
		o.A, o.B, o.N = int(d.one(0, 1, 2, 3, 4)), int(d.one(0, 1, 2, 3, 6, 7, 32, 33)), d.one(0, d.amount())
	case op.Need:
		o.A, o.N = d.member(), d.amount()
		if have, ok := m.have(o.A); ok && d.Intn(3) > 0 {
			o.N = max(0, min(api.MaxMoney, have-50+d.Int63n(100)))
		}
	case op.Deposit:
		o.A, o.B, o.N = d.member(), d.asset(), d.qty()
	case op.Withdraw:
		o.A, o.B, o.N = d.held(m)
	case op.Exchange:
		o.A, o.B, o.N = d.held(m)
		o.C, o.M = d.asset(), d.one(d.qty(), o.N)
	case op.Tick:
		o.N = d.one(0, 1, 1, 2, 7, 30, 100, 40001)
	case op.Rebate:
		o.A, o.N = int(d.one(0, 1, 1, 2, 3, 7)), d.one(0, 100, 1000, 10000, 10001)
	case op.Scene:
		o.A, o.B, o.N = int(d.one(0, 1, 2, 3, 16, 17)), d.member(), d.amount()
	case op.Fund:
		o.N, o.M = d.one(0, 5, d.amount()), d.one(0, d.amount(), api.MaxMoney)
	}
	return o
}

// beginning is operations by which all that is drawn behind them may meet.
func (d drawn) beginning() []api.Op {
	l := []api.Op{
		{Kind: op.Join, A: 1}, {Kind: op.Join, A: 2, B: 1}, {Kind: op.Join, A: 3, B: 2}, {Kind: op.Join, A: 5},
		{Kind: op.Asset, A: 1, C: 1, D: 1}, {Kind: op.Asset, A: 2, C: 1, D: 2}, {Kind: op.Asset, A: 3, B: 1, C: 2, D: 1}, {Kind: op.Asset, A: 4, B: 2, C: 2, D: 2},
		{Kind: op.Asset, A: 5, C: 3, D: 1, N: 60}, {Kind: op.Asset, A: 6, B: 3, C: 3, D: 1, N: 500}, {Kind: op.Asset, A: 7, C: 2, D: 3}, {Kind: op.Asset, A: 8, C: 3, D: 1},
		{Kind: op.Rate, A: 2, N: 1500000}, {Kind: op.Elig, A: 1, C: 1}, {Kind: op.Elig, A: 2, C: 1}, {Kind: op.Elig, A: 3, C: 1},
	}
	for asset := 3; asset <= 8; asset++ {
		l = append(l, api.Op{Kind: op.Price, A: asset, N: 5000 + d.Int63n(10000)})
	}
	return l[:len(l)-d.Intn(8)]
}

// tells asks a book for all that a model tells.
func tells(t *testing.T, b *book.Book, m *model) {
	t.Helper()
	if b.Today() != m.today || !reflect.DeepEqual(b.Fund(), m.fund) {
		t.Fatalf("today %d, fund %+v, want %d, %+v", b.Today(), b.Fund(), m.today, m.fund)
	}
	var members []int
	for n := range 35 {
		s, ok := b.State(n)
		have, is := b.Have(n)
		want, there := m.state(n)
		if s != want || ok != there || have != want.Have || is != there {
			t.Fatalf("member %d: %+v, %v, want %+v, %v", n, s, ok, want, there)
		}
		if there {
			members = append(members, n)
		}
		if !slices.Equal(b.Holdings(n), m.holdings(n)) || b.Sum(n) != m.sum(n) || b.Posted(n) != m.posted[n] {
			t.Fatalf("%d: %v, %d, %d, want %v, %d, %d", n, b.Holdings(n), b.Sum(n), b.Posted(n), m.holdings(n), m.sum(n), m.posted[n])
		}
	}
	if !slices.Equal(b.Members(), members) {
		t.Fatalf("%v, want %v", b.Members(), members)
	}
}

// grew asks how records grew by the n'th operation that was done.
func grew(t *testing.T, was, now []book.Record, n int) {
	t.Helper()
	there := make(map[rec.Place]int)
	for _, r := range was {
		there[r.Place]++
	}
	added := 0
	for i, r := range now {
		added += 1 - there[r.Place]
		key, err := rec.Key(r.Place)
		packed, many := rec.Pack(r.Nums...)
		if err != nil || many != nil || len(key) > api.MaxKey || len(packed) > api.MaxValue || len(r.Nums) > 7 || i > 0 && !rec.Less(now[i-1].Place, r.Place) {
			t.Fatalf("%+v: %v, %v", r, err, many)
		}
		if len(r.Nums) > 0 && (slices.Min(r.Nums) < -1<<40 || slices.Max(r.Nums) > 1<<62) {
			t.Fatalf("%+v", r)
		}
	}
	if added > 12 || len(now) > 2*n+24 {
		t.Fatalf("%d records, %d of them new, behind %d operations", len(now), added, n)
	}
}

// P26.1, P26.2, P26.3, P0.10, P0.11: as the model, whatever comes.
func TestDrawn(t *testing.T) {
	met := make(map[string]int)
	for seed := range int64(27) {
		d := drawn{Rand: rand.New(rand.NewSource(seed)), great: seed%3 == 2}
		m, b, was := newModel(), book.New(), []book.Record(nil)
		begin, brought := d.beginning(), make(map[int]int64)
		for i := range 250 {
			o := d.op(m)
			if i < len(begin) {
				o = begin[i]
			}
			o.ID = 1 + d.Int63n(5000)
			want, wantErr := m.do(o)
			r, err := b.Do(o)
			if r != want || err != wantErr {
				t.Fatalf("seed %d: %s: %+v, %v, want %+v, %v", seed, op.Text(o), r, err, want, wantErr)
			}
			met[op.Name(o.Kind)+": "+tale(err)]++
			now := b.Records()
			grew(t, was, now, len(m.done))
			if err != nil && !reflect.DeepEqual(was, now) {
				t.Fatalf("seed %d: %s: records changed", seed, op.Text(o))
			}
			was = now
			tells(t, b, m)
			if err == nil {
				isCovered(t, b, o, r)
				bring(brought, o)
			}
			isThere(t, b, brought)
			if d.Intn(8) == 0 {
				b = other(t, d, b)
			}
			asksLots(t, d, b, m)
			if id := 1 + d.Int63n(5000); b.Done(id) != m.done[id] || b.Done(o.ID) != m.done[o.ID] {
				t.Fatal(id, b.Done(id))
			}
		}
	}
	isMet(t, met)
}

func tale(err error) string {
	if err == nil {
		return "done"
	}
	return err.Error()
}

// isCovered asks for P0.10 behind an operation that was done.
func isCovered(t *testing.T, b *book.Book, o api.Op, r book.Reply) {
	t.Helper()
	s, ok := b.State(o.A)
	switch o.Kind {
	case op.Withdraw, op.Exchange:
		if !ok || s.Have < s.Need || r.Short != 0 {
			t.Fatalf("%s left %+v: %+v", op.Text(o), s, r)
		}
	case op.Join, op.Need, op.Deposit:
		if !ok || r.Short != max(0, s.Need-s.Have) {
			t.Fatalf("%s left %+v: %+v", op.Text(o), s, r)
		}
	}
}

// bring counts what an operation that was done brings and takes, by asset.
func bring(brought map[int]int64, o api.Op) {
	switch o.Kind {
	case op.Deposit:
		brought[o.B] += o.N
	case op.Withdraw:
		brought[o.B] -= o.N
	case op.Exchange:
		brought[o.B] -= o.N
		brought[o.C] += o.M
	}
}

// isThere asks for P0.11.
func isThere(t *testing.T, b *book.Book, brought map[int]int64) {
	t.Helper()
	for asset := range api.MaxAsset + 1 {
		if n := b.Sum(asset); n != brought[asset]+b.Posted(asset) {
			t.Fatalf("of asset %d there is %d, %d was brought, %d posted", asset, n, brought[asset], b.Posted(asset))
		}
	}
}

// other is the book anew, in one of the ways that there are.
func other(t *testing.T, d drawn, b *book.Book) *book.Book {
	t.Helper()
	if d.Intn(2) == 0 {
		return b.Clone()
	}
	l := b.Records()
	x, err := book.Load(l...)
	if err != nil {
		t.Fatalf("Load: %v", err)
	}
	if !reflect.DeepEqual(x.Records(), l) {
		t.Fatalf("%+v, want %+v", x.Records(), l)
	}
	return x
}

func asksLots(t *testing.T, d drawn, b *book.Book, m *model) {
	t.Helper()
	member, lot := d.member(), d.one(0, 1, 10, 100, d.qty())
	p, ids, err := b.Lots(member, lot)
	want, wantIDs, wantErr := m.lots(member, lot)
	if err != wantErr || !slices.Equal(ids, wantIDs) || !slices.Equal(p.Lots, want.Lots) || !slices.Equal(p.Caps, want.Caps) || p.Need != want.Need {
		t.Fatalf("Lots(%d, %d) = %+v, %v, %v, want %+v, %v, %v", member, lot, p, ids, err, want, wantIDs, wantErr)
	}
}

// isMet asks that the drawn operations came to what they are drawn for.
func isMet(t *testing.T, met map[string]int) {
	t.Helper()
	for kind := op.Join; kind <= op.Fund; kind++ {
		if n := met[op.Name(kind)+": done"]; n < 20 {
			t.Errorf("%s was done %d times", op.Name(kind), n)
		}
	}
	for _, x := range []struct {
		kind int
		errs []error
	}{
		{op.Join, []error{api.ErrRange, api.ErrThere}},
		{op.Asset, []error{api.ErrRange, api.ErrThere}},
		{op.Price, []error{api.ErrNone, api.ErrBarred, api.ErrRange, api.ErrOver}},
		{op.Rate, []error{api.ErrRange, api.ErrOver}},
		{op.Deposit, []error{api.ErrTwice, api.ErrNone, api.ErrRange, api.ErrBarred, api.ErrBreach, api.ErrOver}},
		{op.Withdraw, []error{api.ErrNone, api.ErrRange, api.ErrShort, api.ErrBound, api.ErrNeed}},
		{op.Exchange, []error{api.ErrNone, api.ErrRange, api.ErrBarred, api.ErrBreach, api.ErrShort, api.ErrOver, api.ErrBound, api.ErrNeed}},
		{op.Tick, []error{api.ErrDay, api.ErrOver}},
		{op.Scene, []error{api.ErrRange, api.ErrNone}},
		{op.Fund, []error{api.ErrRange, api.ErrOver}},
	} {
		for _, err := range x.errs {
			if met[op.Name(x.kind)+": "+tale(err)] == 0 {
				t.Errorf("%s never was: %v", op.Name(x.kind), err)
			}
		}
	}
	for text, n := range met {
		t.Log(text, n)
	}
}
