package book

import (
	"slices"
	"sort"

	"pledge/api"
	"pledge/fund"
	"pledge/op"
	"pledge/rec"
)

// A book's records are things and lists. A thing is told by the operation that would set it
// anew: its kind, A and B are the place, C, D and N the numbers; a holding is told as if it was
// deposited, today as if it came by one tick. So no operation adds more than one thing. A list
// is told in rows, and these stand behind the things; only the last row may be a short one.
const (
	ofFund   = op.Fund + 1 + iota // of the fund that was sized: floor, cap, target, scene, shares
	ofPosted                      // of all assets
	ofDone                        // the numbers of the operations
)

const (
	rowSize  = 7 // numbers of a record at most
	fundHead = 4 // numbers of the fund ahead of its shares
)

// Records is all that the book has, rising.
func (b *Book) Records() []Record {
	var l []Record
	for _, o := range b.now.things() {
		l = append(l, recordOf(o))
	}
	// A schedule tells its entries by day, and not by class.
	sort.Slice(l, func(i, j int) bool { return rec.Less(l[i].Place, l[j].Place) })
	l = append(l, rows(ofFund, numbersOf(b.now.fund))...)
	if b.now.posted != [len(b.now.posted)]int64{} {
		l = append(l, rows(ofPosted, b.now.posted[1:])...)
	}
	return append(l, rows(ofDone, b.done)...)
}

// Load is the book whose Records these are.
func Load(l ...Record) (*Book, error) {
	b := New()
	lists := make(map[int][]int64)
	for _, r := range l {
		kind := r.Place.Kind
		if kind >= ofFund {
			lists[kind] = append(lists[kind], r.Nums...)
			continue
		}
		o := thingOf(r)
		if op.Valid(o) != nil || b.now.put(o) != nil {
			return nil, api.ErrShape
		}
	}
	b.now.fund = fundOf(lists[ofFund])
	copy(b.now.posted[1:], lists[ofPosted])
	b.done = lists[ofDone]
	// What stands in another order, or twice, or was not read at all, is not in its Records.
	if !slices.EqualFunc(b.Records(), l, isSame) || !b.isSound() {
		return nil, api.ErrShape
	}
	return b, nil
}

func recordOf(thing api.Op) Record {
	return Record{
		Place: rec.Place{Kind: thing.Kind, A: thing.A, B: thing.B},
		Nums:  []int64{int64(thing.C), int64(thing.D), thing.N},
	}
}

// thingOf is the thing of a record. Its ID is no operation's; no valid one may lack it.
func thingOf(r Record) api.Op {
	var n [3]int64
	copy(n[:], r.Nums)
	return api.Op{ID: 1, Kind: r.Place.Kind, A: r.Place.A, B: r.Place.B, C: int(n[0]), D: int(n[1]), N: n[2]}
}

// rows is a list in records, in new memory.
func rows(kind int, list []int64) []Record {
	var l []Record
	for row := range slices.Chunk(list, rowSize) {
		l = append(l, Record{Place: rec.Place{Kind: kind, A: len(l)}, Nums: slices.Clone(row)})
	}
	return l
}

// numbersOf is the fund as a list, none if it was not sized: then it has no scene.
func numbersOf(f fund.Fund) []int64 {
	if f.Scene == 0 {
		return nil
	}
	return append([]int64{f.Floor, f.Cap, f.Target, int64(f.Scene)}, f.Shares...)
}

func fundOf(list []int64) fund.Fund {
	if len(list) < fundHead {
		return fund.Fund{}
	}
	f := fund.Fund{Floor: list[0], Cap: list[1], Target: list[2], Scene: int(list[3])}
	f.Shares = append(f.Shares, list[fundHead:]...)
	return f
}

func isSame(a, b Record) bool { return a.Place == b.Place && slices.Equal(a.Nums, b.Nums) }
