package book_test

import (
	"reflect"
	"strconv"
	"strings"
	"testing"

	"pledge/api"
	"pledge/book"
	"pledge/fund"
	"pledge/need"
	"pledge/op"
)

// all is what may be asked of a book.
type all struct {
	today    int
	members  []int
	holdings [][]api.Holding
	sums     []int64
	posted   []int64
	haves    []int64
	states   []need.State
	isThere  []bool
	fund     fund.Fund
	records  []book.Record
}

// told is all that a book tells, of members and assets that there can't be too.
func told(t *testing.T, b *book.Book) all {
	t.Helper()
	a := all{today: b.Today(), members: b.Members(), fund: b.Fund(), records: b.Records()}
	for n := -1; n <= api.MaxMember+1; n++ {
		have, ok := b.Have(n)
		s, is := b.State(n)
		if ok != is || s.Have != have || !ok && s != (need.State{}) {
			t.Errorf("Have(%d) = %d, %v, State %+v, %v", n, have, ok, s, is)
		}
		a.haves, a.states, a.isThere = append(a.haves, have), append(a.states, s), append(a.isThere, ok)
		a.holdings = append(a.holdings, b.Holdings(n))
		a.sums, a.posted = append(a.sums, b.Sum(n)), append(a.posted, b.Posted(n))
	}
	return a
}

// isAs asks that two books tell the same.
func isAs(t *testing.T, got, want *book.Book) {
	t.Helper()
	if g, w := told(t, got), told(t, want); !reflect.DeepEqual(g, w) {
		t.Errorf("a book tells\n%+v, want\n%+v", g, w)
	}
}

// desk tells operations to a book, each by a number of its own.
type desk struct {
	*testing.T
	*book.Book
	last int64
}

func newDesk(t *testing.T) *desk { return &desk{T: t, Book: book.New()} }

// parsed is the operation of a text, by the next number.
func (d *desk) parsed(text string) api.Op {
	d.Helper()
	d.last++
	o, err := op.Parse(strings.Fields(strconv.FormatInt(d.last, 10) + " " + text)...)
	if err != nil {
		d.Fatalf("%s: %v", text, err)
	}
	return o
}

// do does operations; they have to be done.
func (d *desk) do(texts ...string) {
	d.Helper()
	for _, text := range texts {
		o := d.parsed(text)
		if r, err := d.Do(o); err != nil || r.ID != o.ID || !d.Done(o.ID) {
			d.Fatalf("%s: %+v, %v", text, r, err)
		}
	}
}

// answers does an operation, and asks for its reply.
func (d *desk) answers(text string, amount, short int64) {
	d.Helper()
	o := d.parsed(text)
	want := book.Reply{ID: o.ID, Amount: amount, Short: short}
	if r, err := d.Do(o); r != want || err != nil {
		d.Errorf("%s: %+v, %v, want %+v", text, r, err, want)
	}
}

// fails asks that an operation is refused, and that nothing is changed by that.
func (d *desk) fails(text string, want error) {
	d.Helper()
	d.refuses(d.parsed(text), want)
}

// refuses is fails of an operation, valid or not.
func (d *desk) refuses(o api.Op, want error) {
	d.Helper()
	was, done := told(d.T, d.Book), d.Done(o.ID)
	if r, err := d.Do(o); r != (book.Reply{}) || err != want {
		d.Errorf("%+v: %+v, %v, want %v", o, r, err, want)
	}
	if now := told(d.T, d.Book); !reflect.DeepEqual(now, was) {
		d.Errorf("%+v: something is changed", o)
	}
	if d.Done(o.ID) != done {
		d.Errorf("%+v: Done(%d) = %v", o, o.ID, !done)
	}
}

// has asks for what a member has.
func (d *desk) has(member int, want int64) {
	d.Helper()
	if n, ok := d.Have(member); n != want || !ok {
		d.Errorf("Have(%d) = %d, %v, want %d", member, n, ok, want)
	}
}

// opened is a desk whose members 1 (of issuer 5), 2 and 4 have joined, with cash in the base
// (1) and in currency 2 (2), securities of issuers 5 (3) and 6 (4), and of nobody (5); the
// classes of the first four are eligible, a unit of each security is worth 1 of its currency.
func opened(t *testing.T) *desk {
	d := newDesk(t)
	d.do("join 1 5 0", "join 2 0 100", "join 4 0 0",
		"asset 1 0 1 1 0", "asset 2 0 1 2 0", "asset 3 5 2 1 400", "asset 4 6 3 2 0", "asset 5 0 4 1 0",
		"rate 2 1500000", "price 3 10000", "price 4 10000", "price 5 10000",
		"elig 1 0 1", "elig 2 0 1", "elig 3 0 1")
	return d
}

// P26.1, P26.2, P26.3: nothing is in a new book.
func TestNew(t *testing.T) {
	b := book.New()
	if b.Today() != 0 || len(b.Members()) > 0 || len(b.Records()) > 24 {
		t.Error(b.Today(), b.Members(), b.Records())
	}
	if f := b.Fund(); !reflect.DeepEqual(f, fund.Fund{}) {
		t.Errorf("%+v", f)
	}
	for n := -2; n <= 40; n++ {
		have, ok := b.Have(n)
		s, is := b.State(n)
		if have != 0 || ok || is || s != (need.State{}) || len(b.Holdings(n)) > 0 || b.Sum(n) != 0 || b.Posted(n) != 0 || b.Done(int64(n)) {
			t.Error(n, have, ok, s, is, b.Holdings(n), b.Sum(n), b.Posted(n))
		}
	}
}

// P26.2: what was done may be asked.
func TestQueries(t *testing.T) {
	d := opened(t)
	d.do("deposit 2 1 60", "deposit 2 3 100", "deposit 4 3 7", "deposit 4 1 5")
	if got := d.Members(); !reflect.DeepEqual(got, []int{1, 2, 4}) {
		t.Error(got)
	}
	want := []api.Holding{{Spot: api.Spot{Member: 2, Asset: 1}, Qty: 60}, {Spot: api.Spot{Member: 2, Asset: 3}, Qty: 100}}
	if got := d.Holdings(2); !reflect.DeepEqual(got, want) {
		t.Error(got)
	}
	if len(d.Holdings(1)) > 0 || len(d.Holdings(3)) > 0 {
		t.Error(d.Holdings(1), d.Holdings(3))
	}
	for asset, sum := range []int64{0, 65, 0, 107, 0, 0} {
		if n := d.Sum(asset); n != sum {
			t.Errorf("Sum(%d) = %d, want %d", asset, n, sum)
		}
	}
	for member, want := range map[int]need.State{1: {}, 2: {Need: 100, Have: 160}, 4: {Have: 12}} {
		if s, ok := d.State(member); s != want || !ok {
			t.Errorf("State(%d) = %+v, %v, want %+v", member, s, ok, want)
		}
		d.has(member, want.Have)
	}
	for _, member := range []int{-1, 0, 3, 5, 32, 33, 1 << 30} {
		n, ok := d.Have(member)
		s, is := d.State(member)
		if n != 0 || ok || is || s != (need.State{}) {
			t.Errorf("%d: %d, %v, %+v, %v", member, n, ok, s, is)
		}
	}
}

// P26.2: the numbers of what was done, and of nothing else.
func TestDone(t *testing.T) {
	d := newDesk(t)
	for _, id := range []int64{5, 1, 1 << 40, 700, 3} {
		if d.Done(id) {
			t.Errorf("Done(%d)", id)
		}
		if r, err := d.Do(api.Op{ID: id, Kind: op.FxCut}); r != (book.Reply{ID: id}) || err != nil {
			t.Error(r, err)
		}
		if !d.Done(id) {
			t.Errorf("not Done(%d)", id)
		}
	}
	for _, id := range []int64{-1, 0, 2, 4, 6, 1<<40 - 1, 1<<40 + 1, -1 << 63} {
		if d.Done(id) {
			t.Errorf("Done(%d)", id)
		}
	}
}

// P26.1: a book and its Clone are the same, and go their own ways from then on.
func TestClone(t *testing.T) {
	d := rich(t)
	isAs(t, d.Clone(), d.Book)
	isAs(t, book.New().Clone(), book.New())
	for _, text := range []string{"join 7 1 3", "asset 9 0 4 1 0", "price 3 5", "rate 2 5", "rate 3 5", "cut 3 5 7", "cut 1 0 7", "fxcut 7",
		"elig 2 400 1", "elig 4 0 1", "cap 1 2 0", "cap 2 1 9", "need 2 3", "deposit 2 1 5", "deposit 2 2 5", "withdraw 2 1 5",
		"exchange 2 1 2 1 1", "tick 100", "rebate 1 0", "rebate 2 1000", "scene 3 2 0", "scene 1 1 70", "fund 0 5"} {
		one := &desk{T: t, Book: d.Clone(), last: 1000}
		other := &desk{T: t, Book: d.Clone(), last: 2000}
		third := &desk{T: t, Book: one.Clone(), last: 3000}
		for id := range d.last + 2 {
			if one.Done(id) != d.Done(id) {
				t.Fatalf("Done(%d) = %v", id, one.Done(id))
			}
		}
		one.do(text)
		isAs(t, other.Book, d.Book)
		isAs(t, third.Book, d.Book)
		was := told(t, one.Book)
		other.do("fxcut 9999")
		third.do("need 4 7")
		if !one.Done(1001) || one.Done(2001) || one.Done(3001) || other.Done(1001) || !other.Done(2001) || third.Done(1001) || !third.Done(3001) {
			t.Errorf("%s: Done is another book's", text)
		}
		if !reflect.DeepEqual(told(t, one.Book), was) {
			t.Errorf("%s: another book's operations are to be seen", text)
		}
	}
}

// P0.4: each list is new memory, its spare room too.
func TestListsAreNewMemory(t *testing.T) {
	d := opened(t)
	d.do("deposit 2 1 150", "deposit 2 3 50", "deposit 4 2 50", "scene 3 2 500", "fund 10 1000", "rebate 1 3600", "tick 100")
	was := told(t, d.Book)
	for range 2 {
		spoil(d.Members(), -7)
		spoil(d.Holdings(2), api.Holding{Qty: -7})
		spoil(d.Fund().Shares, -7)
		p, ids, err := d.Lots(2, 10)
		if err != nil || len(ids) != 2 {
			t.Fatal(ids, err)
		}
		spoil(ids, -7)
		spoil(p.Lots, api.Lot{Value: -7})
		spoil(p.Caps, -7)
		l := d.Records()
		for _, r := range l {
			spoil(r.Nums, -7)
		}
		spoil(l, book.Record{})
		if now := told(t, d.Book); !reflect.DeepEqual(now, was) {
			t.Fatalf("%+v, want %+v", now, was)
		}
	}
	one, other := d.Records(), d.Records()
	for i := range one {
		for j := range one {
			if i != j && len(one[i].Nums) > 0 {
				kept := append([]int64{}, one[j].Nums...)
				_ = append(one[i].Nums, -7)
				if !reflect.DeepEqual(kept, one[j].Nums) {
					t.Fatal(i, j)
				}
			}
		}
	}
	for _, r := range one {
		spoil(r.Nums, -7)
	}
	if !reflect.DeepEqual(other, was.records) {
		t.Error(other)
	}
}

// spoil writes over a list, and over all its room.
func spoil[T any](l []T, x T) {
	l = l[:cap(l)]
	for i := range l {
		l[i] = x
	}
}
