package share_test

import (
	"math/big"
	"math/rand"
	"slices"
	"testing"

	"pledge/api"
	"pledge/share"
)

// split is Split of what may be split, by weights that are not 0 in all, told another way: in
// big numbers, one by one of what is left to who is then the first of those cut by most.
func split(whole int64, weights []int64) []int64 {
	sum := new(big.Int)
	for _, weight := range weights {
		sum.Add(sum, big.NewInt(weight))
	}
	parts := make([]int64, len(weights))
	above := make([]*big.Int, len(weights))
	left := whole
	for i, weight := range weights {
		product := new(big.Int).Mul(big.NewInt(whole), big.NewInt(weight))
		part, rest := new(big.Int).DivMod(product, sum, new(big.Int))
		parts[i], above[i] = part.Int64(), rest
		left -= parts[i]
	}
	for ; left > 0; left-- {
		first := 0
		for i := range above {
			if above[i].Cmp(above[first]) > 0 {
				first = i
			}
		}
		parts[first]++
		above[first] = big.NewInt(-1)
	}
	return parts
}

// checkModel holds Split against split, and, as P0.12 asks, that the parts are just whole in
// all, each its Floor or one more.
func checkModel(t *testing.T, whole int64, weights []int64) {
	t.Helper()
	checkSplit(t, whole, weights, split(whole, weights), nil)
	parts, err := share.Split(whole, weights...)
	if err != nil {
		return
	}
	sum, left := int64(0), whole
	for _, weight := range weights {
		sum += weight
	}
	for i, part := range parts {
		floor, err := share.Floor(whole, weights[i], sum)
		if more := part - floor; err != nil || more < 0 || more > 1 || weights[i] == 0 && part != 0 {
			t.Errorf("Split(%d, %v) has %d at %d, where Floor is %d, %v", whole, weights, part, i, floor, err)
		}
		left -= part
	}
	if left != 0 {
		t.Errorf("Split(%d, %v) = %v: %d is left", whole, weights, parts, left)
	}
}

// P23.1: all small wholes by all small weights of up to 4 members.
func TestSmallSplits(t *testing.T) {
	const top, members = 4, 4
	lists := [][]int64{{}}
	for first := 0; first < len(lists); first++ {
		if len(lists[first]) == members {
			continue
		}
		for weight := range int64(top + 1) {
			lists = append(lists, append(slices.Clone(lists[first]), weight))
		}
	}
	for _, weights := range lists {
		if slices.Max(append(weights, 0)) == 0 {
			continue
		}
		for whole := range int64(2*top*members + 2) {
			checkModel(t, whole, weights)
		}
	}
}

// drawn is an amount of at most top: a small one, one near top, or any; often one of these again.
func drawn(r *rand.Rand, top int64) int64 {
	switch r.Intn(4) {
	case 0:
		return min(int64(r.Intn(6)), top)
	case 1:
		return max(top-int64(r.Intn(6)), 0)
	}
	return r.Int63n(top + 1)
}

// P23.1: drawn wholes, small and great, by drawn weights of up to all members, many of them alike or nearly so.
func TestDrawnSplits(t *testing.T) {
	r := rand.New(rand.NewSource(23))
	for range 20_000 {
		members := 1 + r.Intn(api.MaxMember)
		top := most / int64(members)
		if r.Intn(3) == 0 {
			top = int64(1 + r.Intn(50))
		}
		weights := make([]int64, members)
		for i := range weights {
			weights[i] = drawn(r, top)
			if i > 0 && r.Intn(3) == 0 {
				weights[i] = weights[r.Intn(i)]
			}
		}
		if slices.Max(weights) == 0 {
			weights[r.Intn(members)] = 1
		}
		checkModel(t, drawn(r, most), weights)
		checkModel(t, drawn(r, 100), weights)
	}
}

// P23.1: Floor of drawn numbers, in big ones.
func TestDrawnFloors(t *testing.T) {
	r := rand.New(rand.NewSource(231))
	for range 20_000 {
		whole, sum := drawn(r, most), max(drawn(r, most), 1)
		weight := drawn(r, sum)
		product := new(big.Int).Mul(big.NewInt(whole), big.NewInt(weight))
		want := product.Div(product, big.NewInt(sum))
		checkFloor(t, whole, weight, sum, want.Int64(), nil)
	}
}
