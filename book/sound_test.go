package book_test

import (
	"slices"
	"testing"

	"pledge/api"
	"pledge/book"
	"pledge/op"
	"pledge/rec"
)

// The kinds of the records that are no operation's.
const (
	ofFund = op.Fund + 1 + iota
	ofPosted
	ofDone
)

// edit changes records.
type edit func(l []book.Record) []book.Record

// with has a record, in place of what stands there.
func with(kind, a, b int, nums ...int64) edit {
	return func(l []book.Record) []book.Record {
		p := rec.Place{Kind: kind, A: a, B: b}
		l = without(kind, a, b)(l)
		i := 0
		for i < len(l) && rec.Less(l[i].Place, p) {
			i++
		}
		return slices.Insert(l, i, book.Record{Place: p, Nums: nums})
	}
}

// without has no record there.
func without(kind, a, b int) edit {
	return func(l []book.Record) []book.Record {
		return slices.DeleteFunc(l, func(r book.Record) bool { return r.Place == rec.Place{Kind: kind, A: a, B: b} })
	}
}

// list has a list, in rows, in place of what stands there.
func list(kind int, nums ...int64) edit {
	return func(l []book.Record) []book.Record {
		l = slices.DeleteFunc(l, func(r book.Record) bool { return r.Place.Kind == kind })
		for row := 0; len(nums) > 0; row++ {
			n := min(len(nums), 7)
			l = with(kind, row, 0, nums[:n]...)(l)
			nums = nums[n:]
		}
		return l
	}
}

// posted is a list of what was posted, of one asset.
func posted(asset int, n int64) edit {
	l := make([]int64, api.MaxAsset)
	l[asset-1] = n
	return list(ofPosted, l...)
}

// numbers are those of so many operations.
func numbers(n int) []int64 {
	var l []int64
	for i := range n {
		l = append(l, int64(3*i+1))
	}
	return l
}

// P26.3: records in good order are refused, if no book can have come to what they tell; and
// taken, if one can that is but little another.
func TestLoadOfWhatCanNotBe(t *testing.T) {
	d := rich(t)
	for range 12 { // so that it is not operations that lack
		d.do("need 2 100")
	}
	base := d.Records()
	const most = int64(100) * 32 * 1000000000000 / 360
	for _, x := range []struct {
		name string
		is   bool
		l    []edit
	}{
		{"nothing else", true, nil},
		{"a holding", true, []edit{with(op.Deposit, 2, 2, 0, 0, 5)}},
		{"of no member", false, []edit{with(op.Deposit, 3, 2, 0, 0, 5)}},
		{"of no asset", false, []edit{with(op.Deposit, 2, 9, 0, 0, 5)}},
		{"of its own issuer", false, []edit{with(op.Deposit, 1, 3, 0, 0, 5)}},
		{"of a class that never was eligible", false, []edit{with(op.Deposit, 2, 5, 0, 0, 5)}},
		{"of one that may have been so", true, []edit{with(op.Deposit, 2, 5, 0, 0, 5), with(op.Elig, 4, 100, 0, 0, 0)}},
		{"of one that is not yet so", false, []edit{with(op.Deposit, 2, 5, 0, 0, 5), with(op.Elig, 4, 101, 1, 0, 0)}},
		{"ended ahead of that", false, []edit{with(op.Asset, 9, 0, 6, 1, 30), with(op.Deposit, 2, 9, 0, 0, 5)}},
		{"ended behind that", true, []edit{with(op.Asset, 9, 0, 6, 1, 31), with(op.Deposit, 2, 9, 0, 0, 5)}},
		{"too much of it", false, []edit{with(op.Deposit, 2, 2, 0, 0, api.MaxQty+1)}},
		{"worth more than can be told", false, []edit{with(op.Deposit, 4, 3, 0, 0, api.MaxQty), with(op.Price, 3, 0, 0, 0, 10000001)}},
		{"worth just what can be told", true, []edit{with(op.Deposit, 4, 3, 0, 0, api.MaxQty), with(op.Price, 3, 0, 0, 0, 10000000), without(op.Deposit, 4, 2)}},
		{"the last day", true, []edit{with(op.Tick, 0, 0, 0, 0, 40000)}},
		{"the day behind that", false, []edit{with(op.Tick, 0, 0, 0, 0, 40001)}},
		{"a day far off", false, []edit{with(op.Tick, 0, 0, 0, 0, api.MaxMoney)}},
		{"no such day", false, []edit{with(op.Tick, 0, 0, 0, 0, 0), list(ofPosted)}},
		{"no day, so that interest comes of none", false, []edit{without(op.Tick, 0, 0)}},
		{"a loss", true, []edit{with(op.Scene, 3, 1, 0, 0, 5)}},
		{"of no member", false, []edit{with(op.Scene, 3, 3, 0, 0, 5)}},
		{"none", false, []edit{with(op.Scene, 3, 1, 0, 0, 0)}},
		{"a price of no asset", false, []edit{with(op.Price, 9, 0, 0, 0, 5)}},
		{"a price of cash", false, []edit{with(op.Price, 1, 0, 0, 0, 5)}},
		{"no price", false, []edit{with(op.Price, 3, 0, 0, 0, 0)}},
		{"a rate of the base", false, []edit{with(op.Rate, 1, 0, 0, 0, 1000000)}},
		{"no need", true, []edit{with(op.Join, 2, 0, 0, 0, 0)}},
		{"a need of its own", false, []edit{with(op.Need, 2, 0, 0, 0, 100)}},
		{"too great a need", false, []edit{with(op.Join, 2, 0, 0, 0, api.MaxMoney+1)}},
		{"a member twice", false, []edit{with(op.Join, 2, 1, 0, 0, 0)}},
		{"an operation that tells nothing", false, []edit{with(op.Withdraw, 2, 1, 0, 0, 1)}},
		{"a fund by itself", false, []edit{with(op.Fund, 0, 0, 0, 0, 5)}},
		{"a number that its kind does not use", false, []edit{with(op.FxCut, 0, 0, 0, 1, 5)}},
		{"a place that its kind does not use", false, []edit{with(op.FxCut, 0, 1, 0, 0, 5), without(op.FxCut, 0, 0)}},
		{"a kind ahead of all", false, []edit{with(0, 0, 0, 0, 0, 1)}},
		{"a kind behind all", false, []edit{with(ofDone+1, 0, 0, 5)}},
		{"a kind that is no key's", false, []edit{with(256, 0, 0, 5)}},
		{"a kind below 0", false, []edit{with(-1, 0, 0, 5)}},

		{"interest", true, []edit{posted(2, 5)}},
		{"of no cash", false, []edit{posted(3, 5)}},
		{"of no asset", false, []edit{posted(9, 5)}},
		{"below 0", false, []edit{posted(1, -1)}},
		{"the most", true, []edit{posted(2, most)}},
		{"more than that", false, []edit{posted(2, most+1)}},
		{"the most of fewer days", false, []edit{posted(2, most), without(op.Elig, 1, 0), with(op.Elig, 1, 1, 1, 0, 0)}},
		{"of cash that nobody brought", false, []edit{posted(2, 1), without(op.Elig, 1, 0), without(op.Deposit, 2, 1), without(op.Deposit, 4, 2)}},
		{"none of it", false, []edit{posted(1, 0)}},
		{"of less assets", false, []edit{list(ofPosted, 5)}},
		{"of more assets", false, []edit{list(ofPosted, append(make([]int64, api.MaxAsset), 5)...)}},

		{"no fund", true, []edit{list(ofFund)}},
		{"a fund", true, []edit{list(ofFund, 10, 1000, 100, 2, 0, 60, 0, 40)}},
		{"above its cap", false, []edit{list(ofFund, 10, 99, 100, 2, 0, 60, 0, 40)}},
		{"below its floor", false, []edit{list(ofFund, 101, 1000, 100, 2, 0, 60, 0, 40)}},
		{"at both", true, []edit{list(ofFund, 100, 100, 100, 2, 0, 60, 0, 40)}},
		{"too great a cap", false, []edit{list(ofFund, 10, api.MaxMoney+1, 100, 2, 0, 60, 0, 40)}},
		{"a floor below 0", false, []edit{list(ofFund, -1, 1000, 100, 2, 0, 60, 0, 40)}},
		{"no scene", false, []edit{list(ofFund, 10, 1000, 100, 0, 0, 60, 0, 40)}},
		{"the last scene", true, []edit{list(ofFund, 10, 1000, 100, 16, 0, 60, 0, 40)}},
		{"no such scene", false, []edit{list(ofFund, 10, 1000, 100, 17, 0, 60, 0, 40)}},
		{"a scene below 0", false, []edit{list(ofFund, 10, 1000, 100, -1, 0, 60, 0, 40)}},
		{"less than its shares", false, []edit{list(ofFund, 10, 1000, 99, 2, 0, 60, 0, 40)}},
		{"more than its shares", false, []edit{list(ofFund, 10, 1000, 101, 2, 0, 60, 0, 40)}},
		{"a share below 0", false, []edit{list(ofFund, 10, 1000, 100, 2, -1, 61, 0, 40)}},
		{"a share of no member", false, []edit{list(ofFund, 10, 1000, 100, 2, 0, 60, 1, 39)}},
		{"even shares", true, []edit{list(ofFund, 10, 1000, 102, 2, 26, 26, 25, 25)}},
		{"not quite", false, []edit{list(ofFund, 10, 1000, 102, 2, 26, 25, 26, 25)}},
		{"shares of fewer", true, []edit{list(ofFund, 10, 1000, 100, 2, 40, 60)}},
		{"up to no member", false, []edit{list(ofFund, 10, 1000, 100, 2, 40, 60, 0)}},
		{"of more", false, []edit{list(ofFund, 10, 1000, 100, 2, 0, 60, 0, 40, 0)}},
		{"of too many", false, []edit{list(ofFund, append([]int64{10, 1000, 100, 2, 0, 60, 0, 40}, make([]int64, 40)...)...)}},
		{"of nobody, at its floor", true, []edit{list(ofFund, 10, 1000, 10, 1)}},
		{"above it", false, []edit{list(ofFund, 10, 1000, 11, 1)}},
		{"by another scene", false, []edit{list(ofFund, 10, 1000, 10, 2)}},
		{"of losses that are none", true, []edit{list(ofFund, 0, 1000, 0, 1, 0, 0, 0, 0)}},
		{"by another scene", false, []edit{list(ofFund, 0, 1000, 0, 2, 0, 0, 0, 0)}},
		{"by another scene", false, []edit{list(ofFund, 0, 1, 0, 2, 0, 0, 0, 0)}},
		{"of which the cap leaves none", true, []edit{list(ofFund, 0, 0, 0, 2, 0, 0, 0, 0)}},
		{"a half fund", false, []edit{list(ofFund, 10, 1000, 100)}},

		{"other numbers", true, []edit{list(ofDone, numbers(200)...)}},
		{"the greatest", true, []edit{list(ofDone, append(numbers(200), 1<<40)...)}},
		{"too great", false, []edit{list(ofDone, append(numbers(200), 1<<40+1)...)}},
		{"0", false, []edit{list(ofDone, append(numbers(200), 0)...)}},
		{"below 0", false, []edit{list(ofDone, append(numbers(200), -1)...)}},
		{"one twice", false, []edit{list(ofDone, append(numbers(200), 1)...)}},
		{"as many as may be", true, []edit{list(ofDone, numbers(api.MaxOps)...)}},
		{"too many", false, []edit{list(ofDone, numbers(api.MaxOps+1)...)}},
		{"none", false, []edit{list(ofDone)}},
		{"a row that is too short", false, []edit{with(ofDone, 0, 0, 1, 2, 3)}},
		{"no row at the beginning", false, []edit{without(ofDone, 0, 0)}},
	} {
		l := copied(base)
		for _, e := range x.l {
			l = e(l)
		}
		b, err := book.Load(l...)
		if x.is && (b == nil || err != nil) || !x.is && (b != nil || err != api.ErrShape) {
			t.Errorf("%s: %v, %v of %+v", x.name, b, err, l)
		}
	}
}

// P26.3: what was set asks for an operation each.
func TestLoadOfFewOperations(t *testing.T) {
	for _, texts := range [][]string{
		{"join 1 0 0"},
		{"asset 1 0 1 1 0", "asset 3 0 2 1 0", "price 3 5", "rate 2 5", "cut 1 1 0", "fxcut 5", "elig 1 0 0", "cap 1 1 5", "rebate 1 5", "tick 1"},
		{"join 1 0 0", "scene 1 1 5", "scene 2 1 5", "fund 0 5"},
		{"join 1 0 0", "elig 1 0 1", "asset 1 0 1 1 0", "deposit 1 1 5"},
		{"fund 0 5"},
	} {
		d := newDesk(t)
		d.do(texts...)
		l := d.Records()
		for n := range len(texts) {
			isNone(t, "too few operations", list(ofDone, numbers(n)...)(copied(l)))
		}
		for n := len(texts); n < 20; n++ {
			if x, err := book.Load(list(ofDone, numbers(n)...)(copied(l))...); x == nil || err != nil {
				t.Error(n, x, err)
			}
		}
	}
}
