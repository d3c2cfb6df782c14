package book_test

import (
	"math"
	"reflect"
	"slices"
	"strconv"
	"testing"

	"pledge/api"
	"pledge/book"
	"pledge/op"
	"pledge/rec"
)

// again is the book that Load makes of a book's Records.
func again(t *testing.T, b *book.Book) *book.Book {
	t.Helper()
	l := b.Records()
	x, err := book.Load(l...)
	if err != nil {
		t.Fatalf("Load: %v of %+v", err, l)
	}
	isAs(t, x, b)
	return x
}

// rich is a book that has of all that a book may have.
func rich(t *testing.T) *desk {
	d := opened(t)
	d.do("cut 3 5 2000", "cut 2 1 0", "fxcut 500", "cap 1 2 500", "cap 3 6 60", "cap 2 1 7000", "rebate 1 360", "rebate 3 5", "elig 2 400 0", "elig 6 30 0",
		"deposit 2 1 5000", "deposit 4 2 50", "deposit 1 4 7", "deposit 4 3 20", "scene 3 2 500", "scene 2 4 50", "fund 10 1000", "tick 100", "rate 5 7")
	return d
}

// full is a book that has as much as there may be of all but operations.
func full(t *testing.T) *desk {
	d := newDesk(t)
	d.do("elig 1 0 1", "elig 2 0 1", "fxcut 1")
	for n := range api.MaxEntries - 2 {
		d.do("elig " + strconv.Itoa(1+n%6) + " " + strconv.Itoa(40000-n) + " 1")
	}
	for n := 1; n <= api.MaxMoneys; n++ {
		d.do("rebate "+strconv.Itoa(n)+" 10000", "cap 2 "+strconv.Itoa(n)+" 1000000000000000", "cap 1 "+strconv.Itoa(n)+" 1000000000000000")
		if n > 1 {
			d.do("rate " + strconv.Itoa(n) + " 1000000")
		}
		for bucket := range api.MaxBucket {
			d.do("cut " + strconv.Itoa(n) + " " + strconv.Itoa(bucket) + " 1")
		}
	}
	for n := 1; n <= api.MaxMember; n++ {
		text := strconv.Itoa(n)
		d.do("join "+text+" 0 31250000000000", "cap 3 "+text+" 1000000000000000")
		for scene := 1; scene <= api.MaxScenes; scene++ {
			d.do("scene " + strconv.Itoa(scene) + " " + text + " 500000000000000")
		}
	}
	return d
}

// P26.3: Load of Records is that book, of as much as there may be, too; and what one operation adds.
func TestRecordsOfAFullBook(t *testing.T) {
	d := full(t)
	step := func(text string) {
		t.Helper()
		was := d.Records()
		d.do(text)
		grew(t, was, d.Records(), int(d.last))
	}
	for n := 1; n <= api.MaxAsset; n++ {
		asset := strconv.Itoa(n)
		step("asset " + asset + " 0 1 1 0")
		for member := 1; member <= api.MaxMember; member++ {
			d.do("deposit " + strconv.Itoa(member) + " " + asset + " 500000000000")
		}
	}
	step("tick 360")
	step("fund 1000000000000000 1000000000000000")
	step("fund 0 999999999999999")
	if n := d.Posted(32); n != 32*500000000000 {
		t.Error(n)
	}
	if f := d.Fund(); f.Target != 2*468750000000000 || len(f.Shares) != 32 {
		t.Errorf("%+v", f)
	}
	x := again(t, d.Book)
	isAs(t, x.Clone(), d.Book)
	one := &desk{T: t, Book: x, last: 1 << 30}
	one.do("withdraw 3 3 1")
	if d.Sum(3) != 32*1000000000000 || x.Sum(3) != 32*1000000000000-1 {
		t.Error(d.Sum(3), x.Sum(3))
	}
}

// P26.3: behind each operation, of a few only, too.
func TestRecordsGrow(t *testing.T) {
	for _, texts := range [][]string{
		{"fund 5 7", "join 32 0 0", "fund 5 7", "tick 1", "fund 0 1"},
		{"join 32 1 5", "fund 5 7", "join 1 0 0", "scene 16 32 5", "scene 16 32 0"},
		{"tick 40000", "fxcut 5", "fxcut 0", "rebate 1 5", "rebate 1 0", "cut 1 1 0", "cap 1 1 5", "cap 1 1 0"},
	} {
		d := newDesk(t)
		if n := len(d.Records()); n > 24 {
			t.Error(n)
		}
		again(t, d.Book)
		for _, text := range texts {
			was := d.Records()
			d.do(text)
			grew(t, was, d.Records(), int(d.last))
			again(t, d.Book)
		}
	}
}

// P26.3: a loaded book goes on as the one whose Records it has.
func TestLoadGoesOn(t *testing.T) {
	one := rich(t)
	other := &desk{T: t, Book: again(t, one.Book), last: one.last}
	for _, text := range []string{"tick 30", "deposit 2 5 1", "need 2 700", "withdraw 2 1 4000", "exchange 2 1 2 50 70", "fund 0 20", "elig 4 0 1", "deposit 2 5 1",
		"price 3 4", "price 3 0", "rebate 1 0", "tick 300", "join 3 1 5", "asset 8 1 4 1 0", "deposit 3 8 1", "scene 3 4 700", "fund 0 900", "withdraw 4 2 50"} {
		o := one.parsed(text)
		r, err := one.Do(o)
		x, is := other.Do(o)
		if r != x || err != is {
			t.Errorf("%s: %+v, %v, want %+v, %v", text, x, is, r, err)
		}
		if one.Done(o.ID) != other.Done(o.ID) {
			t.Error(text)
		}
	}
	isAs(t, other.Book, one.Book)
	for id := range one.last + 2 {
		if one.Done(id) != other.Done(id) {
			t.Error(id)
		}
	}
}

// copied is records in memory of their own.
func copied(l []book.Record) []book.Record {
	c := slices.Clone(l)
	for i := range c {
		c[i].Nums = slices.Clone(c[i].Nums)
	}
	return c
}

// isNone asks that records are not what Records of a book gives.
func isNone(t *testing.T, what string, l []book.Record) {
	t.Helper()
	if x, err := book.Load(l...); x != nil || err != api.ErrShape {
		t.Errorf("%s: %v, %v", what, x, err)
	}
}

// isSome asks that records are refused, or are just those of the book that they make; of such
// a one all can be told and done.
func isSome(t *testing.T, l []book.Record) {
	t.Helper()
	x, err := book.Load(l...)
	if err != nil {
		if x != nil || err != api.ErrShape {
			t.Errorf("%v, %v of %+v", x, err, l)
		}
		return
	}
	if got := x.Records(); len(got)+len(l) > 0 && !reflect.DeepEqual(got, l) {
		t.Errorf("%+v, want %+v", got, l)
	}
	for _, member := range x.Members() {
		if s, ok := x.State(member); !ok || s.Have < 0 || s.Have > api.MaxMoney || s.Need < 0 || s.Need > api.MaxMoney {
			t.Errorf("%+v, %v of %+v", s, ok, l)
		}
	}
	if r, err := x.Do(api.Op{ID: 1 << 39, Kind: op.FxCut, N: 77}); r.ID != 1<<39 || err != nil {
		t.Errorf("%+v, %v of %+v", r, err, l)
	}
}

// P26.3: no record may be missing unseen, be there twice, or stand elsewhere.
func TestLoadOfOtherLists(t *testing.T) {
	l := rich(t).Records()
	for i := range l {
		isSome(t, slices.Delete(copied(l), i, i+1))
		isSome(t, copied(l)[:i])
		isSome(t, copied(l)[i:])
		isNone(t, "twice", slices.Insert(copied(l), i, l[i]))
		for j := range i {
			c := copied(l)
			c[i], c[j] = c[j], c[i]
			isNone(t, "in another order", c)
			c = copied(l)
			c[i].Place, c[j].Place = c[j].Place, c[i].Place
			isSome(t, c)
		}
	}
	slices.Reverse(l)
	isNone(t, "falling", l)
}

// P26.3: records with another number, or place, are refused, or another book's.
func TestLoadOfOtherRecords(t *testing.T) {
	l := rich(t).Records()
	var places []rec.Place
	for _, r := range l {
		p := r.Place
		places = append(places, rec.Place{Kind: p.Kind + 1, A: p.A, B: p.B}, rec.Place{Kind: p.Kind - 1, A: p.A, B: p.B})
		for _, n := range []int{-1, 1, 5, 32, 33, 40001, 1 << 39, math.MaxInt, math.MinInt} {
			places = append(places, rec.Place{Kind: p.Kind, A: p.A + n, B: p.B}, rec.Place{Kind: p.Kind, A: p.A, B: p.B + n},
				rec.Place{Kind: p.Kind, A: n, B: p.B}, rec.Place{Kind: p.Kind, A: p.A, B: n}, rec.Place{Kind: n, A: p.A, B: p.B})
		}
	}
	for _, p := range places {
		isSome(t, []book.Record{{Place: p}})
		isSome(t, []book.Record{{Place: p, Nums: []int64{0, 0, 1}}})
	}
	for i, r := range l {
		for _, p := range places[i*47 : i*47+47] {
			c := copied(l)
			c[i].Place = p
			if p != r.Place {
				isSome(t, c)
			}
		}
		for j := range r.Nums {
			for _, n := range []int64{-1, 0, 1, r.Nums[j] - 1, r.Nums[j] + 1, 400, 40001, 1 << 40, 1<<40 + 1, 1 << 62, -1 << 40, -1<<40 - 1, 1<<62 + 1, math.MaxInt64, math.MinInt64, 1<<32 + 1} {
				c := copied(l)
				c[i].Nums[j] = n
				if n < 0 || n > 1<<62 {
					isNone(t, "a number that no record has", c)
				} else {
					isSome(t, c)
				}
			}
			c := copied(l)
			c[i].Nums = slices.Delete(c[i].Nums, j, j+1)
			isSome(t, c)
			c = copied(l)
			c[i].Nums = slices.Insert(c[i].Nums, j, 0)
			isSome(t, c)
		}
		for _, more := range []int{8, 100} {
			c := copied(l)
			c[i].Nums = append(c[i].Nums, make([]int64, more)...)
			isNone(t, "more numbers", c)
		}
		c := copied(l)
		c[i].Nums = nil
		isNone(t, "no numbers", c)
	}
}

// P0.4: what is handed in is neither changed nor kept, nor read behind its length.
func TestLoadMemory(t *testing.T) {
	want := rich(t)
	l := want.Records()
	for i, r := range l {
		nums := append(slices.Clone(r.Nums), 77, 78, 79)
		l[i].Nums = nums[:len(r.Nums)]
	}
	room := append(l, book.Record{Nums: []int64{5}}, l[0])
	kept := copied(room)
	x, err := book.Load(room[:len(l)]...)
	if err != nil {
		t.Fatal(err)
	}
	if !reflect.DeepEqual(room, kept) {
		t.Error(room)
	}
	for _, r := range l {
		if n := len(r.Nums); !slices.Equal(r.Nums[:n+3][n:], []int64{77, 78, 79}) {
			t.Error(r.Nums[:n+3])
		}
		spoil(r.Nums, -7)
	}
	spoil(room, book.Record{})
	isAs(t, x, want.Book)
	d := &desk{T: t, Book: x, last: 1 << 20}
	d.do("fund 1 900", "tick 3")
	again(t, x)
}
