package share_test

import (
	"math"
	"slices"
	"testing"

	"pledge/api"
	"pledge/share"
)

const most = api.MaxMoney

func checkSplit(t *testing.T, whole int64, weights []int64, want []int64, wantErr error) {
	t.Helper()
	if got, err := share.Split(whole, weights...); !slices.Equal(got, want) || err != wantErr {
		t.Errorf("Split(%d, %v) = %v, %v, want %v, %v", whole, weights, got, err, want, wantErr)
	}
}

func checkFloor(t *testing.T, whole, weight, sum, want int64, wantErr error) {
	t.Helper()
	if got, err := share.Floor(whole, weight, sum); got != want || err != wantErr {
		t.Errorf("Floor(%d, %d, %d) = %d, %v, want %d, %v", whole, weight, sum, got, err, want, wantErr)
	}
}

// alike is so many weights of n.
func alike(members int, n int64) []int64 { return slices.Repeat([]int64{n}, members) }

// wrongAmounts are no amounts; some would be one in fewer bits.
func wrongAmounts() []int64 {
	return []int64{-1, -2, -5, -most, most + 1, most + 2, 2 * most, 1 - 1<<50, 1<<50 + 1, 1<<60 + 1, math.MinInt64, math.MinInt64 + 1, math.MinInt64 + 5, math.MaxInt64 - 1, math.MaxInt64}
}

// P23.1: Floor is cut down.
func TestFloor(t *testing.T) {
	for _, x := range []struct{ whole, weight, sum, want int64 }{
		{10, 1, 3, 3},
		{10, 2, 3, 6},
		{10, 3, 3, 10},
		{11, 1, 3, 3},
		{12, 1, 3, 4},
		{8, 1, 3, 2},
		{2, 1, 3, 0},
		{1, 2, 3, 0},
		{1, 3, 3, 1},
		{0, 1, 3, 0},
		{10, 0, 3, 0},
		{0, 0, 1, 0},
		{0, 1, 1, 0},
		{1, 0, 1, 0},
		{1, 1, 1, 1},
		{7, 999, 1000, 6},
		{1000, 999, 1000, 999},
		{1001, 999, 1000, 999},
	} {
		checkFloor(t, x.whole, x.weight, x.sum, x.want, nil)
	}
}

// P23.1: Floor is right where whole times weight is no number of 64 bits, and where no float tells it from the next one.
func TestFloorOfGreatNumbers(t *testing.T) {
	for _, x := range []struct{ whole, weight, sum, want int64 }{
		{most, most, most, most},
		{most, most - 1, most, most - 1},
		{most - 1, most, most, most - 1},
		{most - 1, most - 1, most, most - 2},
		{most - 2, most - 3, most, most - 5},
		{most, 1, most, 1},
		{most - 1, 1, most, 0},
		{most, 0, most, 0},
		{0, most, most, 0},
		{0, 0, most, 0},
		{1, most, most, 1},
		{1, most - 1, most, 0},
		{2, most / 2, most, 1},
		{2, most/2 - 1, most, 0},
		{most, 1, 1, most},
		{most, 1, 2, most / 2},
		{most, 1, 3, 333333333333333},
		{most, 2, 3, 666666666666666},
		{most, 333333333333333, most, 333333333333333},
		{most - 1, 333333333333333, most, 333333333333332},
		{most - 1, most / 2, most, most/2 - 1},
		{9223372037, 1000000000, 2000000000, 4611686018},
	} {
		checkFloor(t, x.whole, x.weight, x.sum, x.want, nil)
	}
}

// P23.1, P0.3: Floor is ErrRange and nothing beside, if one is no amount, whichever.
func TestFloorWrong(t *testing.T) {
	for _, wrong := range wrongAmounts() {
		for _, right := range []int64{0, 1, 3, most} {
			checkFloor(t, wrong, right, most, 0, api.ErrRange)
			checkFloor(t, wrong, 0, max(right, 1), 0, api.ErrRange)
			checkFloor(t, right, wrong, most, 0, api.ErrRange)
			checkFloor(t, right, wrong, wrong, 0, api.ErrRange)
			checkFloor(t, right, 0, wrong, 0, api.ErrRange)
			checkFloor(t, right, right, wrong, 0, api.ErrRange)
		}
		checkFloor(t, wrong, wrong, wrong, 0, api.ErrRange)
		checkFloor(t, wrong, wrong, most, 0, api.ErrRange)
	}
}

// P23.1: Floor is ErrRange of a weight above the sum, and not of one at it.
func TestFloorOfTooGreatAWeight(t *testing.T) {
	for _, sum := range []int64{1, 2, 3, 1000, most - 1} {
		for _, whole := range []int64{0, 1, 10, most} {
			checkFloor(t, whole, sum, sum, whole, nil)
			checkFloor(t, whole, sum+1, sum, 0, api.ErrRange)
			checkFloor(t, whole, most, sum, 0, api.ErrRange)
		}
	}
}

// P23.1: Floor is ErrRange of a sum of 0, whatever the others are.
func TestFloorOfNoSum(t *testing.T) {
	for _, whole := range []int64{0, 1, 10, most} {
		for _, weight := range []int64{0, 1, most} {
			checkFloor(t, whole, weight, 0, 0, api.ErrRange)
		}
	}
}

// P23.1: each has its Floor, and what is left goes to those who are cut by most.
func TestSplit(t *testing.T) {
	for _, x := range []struct {
		whole         int64
		weights, want []int64
	}{
		{10, []int64{1, 1, 1}, []int64{4, 3, 3}},
		{11, []int64{1, 1, 1}, []int64{4, 4, 3}},
		{12, []int64{1, 1, 1}, []int64{4, 4, 4}},
		{10, []int64{1, 2, 3}, []int64{2, 3, 5}},
		{10, []int64{3, 2, 1}, []int64{5, 3, 2}},
		{7, []int64{0, 5, 0, 2}, []int64{0, 5, 0, 2}},
		{1, []int64{3, 4}, []int64{0, 1}},
		{1, []int64{4, 3}, []int64{1, 0}},
		{10, []int64{6, 6, 2}, []int64{4, 4, 2}},   // cut by 4, 4, 6 of 14
		{10, []int64{47, 53}, []int64{5, 5}},       // by 70 and 30 of 100: the smaller one has it
		{3, []int64{98, 1, 1}, []int64{3, 0, 0}},   // by 94, 3, 3 of 100
		{4, []int64{70, 15, 15}, []int64{3, 1, 0}}, // by 80, 60, 60 of 100: 2 left
		{2, []int64{1, 1, 1, 5}, []int64{1, 0, 0, 1}},
		{5, []int64{9}, []int64{5}},
		{5, []int64{1}, []int64{5}},
		{0, []int64{9}, []int64{0}},
		{0, []int64{3, 4}, []int64{0, 0}},
		{100, []int64{100, 1}, []int64{99, 1}},
	} {
		checkSplit(t, x.whole, x.weights, x.want, nil)
	}
}

// P23.1: of parts that are as great the first ones have what is left, whatever else they have.
func TestSplitOfEqualParts(t *testing.T) {
	for _, x := range []struct {
		whole         int64
		weights, want []int64
	}{
		{1, []int64{1, 1}, []int64{1, 0}},
		{2, []int64{1, 4, 1}, []int64{1, 1, 0}}, // 2 of 6 each
		{2, []int64{4, 1, 1}, []int64{2, 0, 0}},
		{2, []int64{1, 1, 4}, []int64{1, 0, 1}},
		{2, []int64{0, 1, 1, 0, 4}, []int64{0, 1, 0, 0, 1}},
		{4, []int64{1, 4, 1}, []int64{1, 3, 0}},       // 4 of 6 each: 2 left
		{5, []int64{1, 3, 2, 4}, []int64{1, 1, 1, 2}}, // 5, 5, 0, 0 of 10
	} {
		checkSplit(t, x.whole, x.weights, x.want, nil)
	}
	for members := 1; members <= api.MaxMember; members++ {
		for left := range members {
			want := alike(members, 7)
			for i := range left {
				want[i]++
			}
			for _, weight := range []int64{1, 2, 9, most / api.MaxMember} {
				checkSplit(t, int64(7*members+left), alike(members, weight), want, nil)
			}
		}
	}
}

// P23.1: who has no weight has nothing, wherever it stands and however much is left.
func TestSplitWithoutWeight(t *testing.T) {
	for place := range api.MaxMember {
		for left := range api.MaxMember - 1 {
			weights := alike(api.MaxMember, 3)
			weights[place] = 0
			want, given := make([]int64, api.MaxMember), 0
			for i := range want {
				if i != place && given < left {
					want[i], given = 1, given+1
				}
			}
			checkSplit(t, int64(left), weights, want, nil)
		}
		weights, want := make([]int64, api.MaxMember), make([]int64, api.MaxMember)
		weights[place], want[place] = 5, most
		checkSplit(t, most, weights, want, nil)
	}
}

// P23.1: parts that no float tells from each other, of products that are no numbers of 64 bits.
func TestSplitOfGreatNumbers(t *testing.T) {
	for _, x := range []struct {
		whole         int64
		weights, want []int64
	}{
		{most, []int64{most}, []int64{most}},
		{most - 1, []int64{most}, []int64{most - 1}},
		{0, []int64{most}, []int64{0}},
		{most, []int64{1}, []int64{most}},
		{most, []int64{1, 1, 1}, []int64{333333333333334, 333333333333333, 333333333333333}},
		{most, []int64{333333333333333, 333333333333334, 333333333333333}, []int64{333333333333333, 333333333333334, 333333333333333}},
		{most - 1, []int64{most / 2, most / 2}, []int64{most / 2, most/2 - 1}},
		{most - 1, []int64{most/2 - 1, most/2 + 1}, []int64{most/2 - 1, most / 2}},
		{most - 1, []int64{most/2 + 1, most/2 - 1}, []int64{most / 2, most/2 - 1}},
		{1, []int64{most/2 - 1, most/2 + 1}, []int64{0, 1}},
		{1, []int64{most/2 + 1, most/2 - 1}, []int64{1, 0}},
		{1, []int64{333333333333333, 333333333333333, 333333333333334}, []int64{0, 0, 1}},
		{2, []int64{333333333333333, 333333333333334, 333333333333333}, []int64{1, 1, 0}},
		{2, []int64{333333333333334, 333333333333333, 333333333333333}, []int64{1, 1, 0}},
		{2, []int64{333333333333333, 333333333333333, 333333333333334}, []int64{1, 0, 1}},
		{most - 1, []int64{most - 1, 1}, []int64{most - 2, 1}}, // 1 and most - 1 of most
		{most - 1, []int64{1, most - 1}, []int64{1, most - 2}},
		{most - 2, []int64{most - 1, 1}, []int64{most - 3, 1}},
		{most / 2, []int64{most - 1, 1}, []int64{most / 2, 0}}, // as far above each Floor
		{most / 2, []int64{1, most - 1}, []int64{1, most/2 - 1}},
		{most/2 - 1, []int64{1, most - 1}, []int64{0, most/2 - 1}},
		{most/2 + 1, []int64{most - 1, 1}, []int64{most / 2, 1}},
	} {
		checkSplit(t, x.whole, x.weights, x.want, nil)
	}
}

// P23.1, P0.3: of more than MaxMember it is ErrMany, ahead of all else; of MaxMember it is not.
func TestSplitOfTooMany(t *testing.T) {
	for _, members := range []int{api.MaxMember + 1, api.MaxMember + 2, 2 * api.MaxMember, 256, 256 + 1, 1 << 16, 1<<16 + 1} {
		for _, whole := range []int64{0, 1, 5, most, most + 1, -1} {
			for _, weight := range []int64{0, 1, most, most + 1, -1, math.MinInt64, math.MaxInt64} {
				checkSplit(t, whole, alike(members, weight), nil, api.ErrMany)
			}
		}
	}
	checkSplit(t, 5*api.MaxMember, alike(api.MaxMember, 1), alike(api.MaxMember, 5), nil)
	checkSplit(t, 0, alike(api.MaxMember, 0), alike(api.MaxMember, 0), nil)
}

// P23.1, P0.2, P0.3: a whole that is no amount is ErrRange, ahead of ErrOver and ErrNone.
func TestSplitOfWrongWhole(t *testing.T) {
	for _, wrong := range wrongAmounts() {
		for _, weights := range [][]int64{nil, {}, {0}, {0, 0}, {1}, {1, 2, 3}, {most}, {most, 1}, {most, most, most}, {wrong}, {1, wrong}, alike(32, 1)} {
			checkSplit(t, wrong, weights, nil, api.ErrRange)
		}
	}
}

// P23.1, P0.2, P0.3: a weight that is no amount is ErrRange wherever it lies, ahead of ErrOver and ErrNone.
func TestSplitOfWrongWeight(t *testing.T) {
	for _, wrong := range wrongAmounts() {
		for _, whole := range []int64{0, 1, 5, most} {
			checkSplit(t, whole, []int64{wrong}, nil, api.ErrRange)
			checkSplit(t, whole, []int64{wrong, wrong}, nil, api.ErrRange)
			for _, weights := range [][]int64{{0, 0, 0}, {1, 2, 3}, {most, most, most}, {5, 0, most}, alike(32, 1), alike(32, 0)} {
				for i := range weights {
					bad := slices.Clone(weights)
					bad[i] = wrong
					checkSplit(t, whole, bad, nil, api.ErrRange)
				}
			}
		}
	}
	for _, weights := range [][]int64{{1, -1}, {-1, 1}, {5, -5, 0}, {0, -5, 5}, {most, -1, 1}, {most + 1, -1}, {math.MaxInt64, math.MaxInt64, 2}} {
		checkSplit(t, 0, weights, nil, api.ErrRange) // in all they would be an amount
		checkSplit(t, 5, weights, nil, api.ErrRange)
	}
}

// P23.1, P0.3: weights that are above MaxMoney in all are ErrOver, of each whole, 0 too; at MaxMoney they are not.
func TestSplitOver(t *testing.T) {
	for _, whole := range []int64{0, 1, 5, most} {
		for _, weights := range [][]int64{{most, 1}, {1, most}, {0, most, 0, 1}, {most - 1, 2}, {most - 1, 1, 1}, {most / 2, most/2 + 1}, {most, most}, {most, most, most}, alike(32, most), alike(32, most/32+1), append(alike(30, 0), most, 1)} {
			checkSplit(t, whole, weights, nil, api.ErrOver)
		}
	}
	checkSplit(t, most, []int64{most - 1, 1}, []int64{most - 1, 1}, nil)
	checkSplit(t, most, []int64{most - 2, 1, 1}, []int64{most - 2, 1, 1}, nil)
	checkSplit(t, most, alike(32, most/32), alike(32, most/32), nil)
	checkSplit(t, 0, []int64{most - 1, 1}, []int64{0, 0}, nil)
}

// P23.1: without weights nothing but 0 can be split, and of 0 each has 0.
func TestSplitOfNoSum(t *testing.T) {
	for members := range api.MaxMember + 1 {
		none := alike(members, 0)
		checkSplit(t, 0, none, none, nil)
		for _, whole := range []int64{1, 2, 5, most - 1, most} {
			checkSplit(t, whole, none, nil, api.ErrNone)
		}
	}
	checkSplit(t, 0, nil, nil, nil)
	checkSplit(t, 5, nil, nil, api.ErrNone)
}

// P0.4: what is handed in stays as it was, and what lies behind its length is neither read nor written.
func TestHandedIn(t *testing.T) {
	memory := []int64{1, 2, 3, 0, -1, 7, most}
	was := slices.Clone(memory)
	checkSplit(t, 10, memory[:4], []int64{2, 3, 5, 0}, nil)
	checkSplit(t, 10, memory[:3], []int64{2, 3, 5}, nil)
	checkSplit(t, 0, memory[:3], []int64{0, 0, 0}, nil)
	checkSplit(t, 0, memory[3:4], []int64{0}, nil)
	checkSplit(t, 10, memory[5:6], []int64{10}, nil)
	checkSplit(t, 10, memory[:5], nil, api.ErrRange)
	checkSplit(t, 10, memory[5:], nil, api.ErrOver)
	checkSplit(t, 10, memory[3:4], nil, api.ErrNone)
	if !slices.Equal(memory, was) {
		t.Errorf("what was handed in is %v now, and was %v", memory, was)
	}
}

// P0.4: the lists are new memory, their spare room too.
func TestListsAreNewMemory(t *testing.T) {
	for _, x := range []struct {
		whole         int64
		weights, want []int64
	}{
		{10, []int64{1, 2, 3}, []int64{2, 3, 5}},
		{7, []int64{7}, []int64{7}},
		{0, []int64{4, 5}, []int64{0, 0}},
		{0, []int64{0, 0}, []int64{0, 0}},
		{32, alike(32, 1), alike(32, 1)},
		{0, nil, nil},
	} {
		one, err := share.Split(x.whole, x.weights...)
		other, otherErr := share.Split(x.whole, x.weights...)
		if err != nil || otherErr != nil {
			t.Fatal(err, otherErr)
		}
		room := one[:cap(one)]
		for i := range room {
			room[i] = 99
		}
		_ = append(one, 98)
		if !slices.Equal(other, x.want) {
			t.Errorf("another list shows %v, want %v", other, x.want)
		}
		checkSplit(t, x.whole, x.weights, x.want, nil)
	}
}
