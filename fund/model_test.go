package fund_test

import (
	"math/big"
	"math/rand"
	"slices"
	"testing"

	"pledge/api"
	"pledge/fund"
)

// losses are what members lose, by scene and member.
type losses [api.MaxScenes + 1][api.MaxMember + 1]int64

// worst is the greatest, over the scenes, of the two greatest losses above needs, and the
// first scene that has it; false, if some scene's are above MaxMoney.
func (l *losses) worst(needs []int64) (int64, int, bool) {
	greatest, first := int64(-1), 0
	for scene := 1; scene <= api.MaxScenes; scene++ {
		above := []int64{0, 0}
		for i, need := range needs {
			above = append(above, max(0, l[scene][i+1]-need))
		}
		slices.Sort(above)
		two := above[len(above)-1] + above[len(above)-2]
		if two > most {
			return 0, 0, false
		}
		if two > greatest {
			greatest, first = two, scene
		}
	}
	return greatest, first, true
}

// checkShares asks that shares are just target in all, each within one of its part of it, by
// needs, or, without any, by heads (P0.12).
func checkShares(t *testing.T, target int64, needs, shares []int64) {
	t.Helper()
	if len(shares) != len(needs) {
		t.Fatalf("%d needs have the shares %v", len(needs), shares)
	}
	if len(needs) == 0 {
		return
	}
	parts := needs
	if slices.Max(needs) == 0 {
		parts = alike(len(needs), 1)
	}
	sum, left := new(big.Int), target
	for _, part := range parts {
		sum.Add(sum, big.NewInt(part))
	}
	for i, n := range shares {
		product := new(big.Int).Mul(big.NewInt(target), big.NewInt(parts[i]))
		down, rest := new(big.Int).DivMod(product, sum, new(big.Int))
		more := n - down.Int64()
		if more < 0 || more > 1 || more == 1 && rest.Sign() == 0 {
			t.Errorf("of %d, by %v, %d has %d", target, needs, i, n)
		}
		left -= n
	}
	if left != 0 {
		t.Errorf("of %d, by %v, %v are the shares: %d is left", target, needs, shares, left)
	}
}

// drawn is an amount: mostly a small one, so that several are as great, seldom a great one.
func drawn(r *rand.Rand) int64 {
	if r.Intn(40) == 0 {
		return []int64{most / 2, most/2 + 1, most - 1, most}[r.Intn(4)]
	}
	return int64(r.Intn(12))
}

func drawnList(r *rand.Rand, long int) []int64 {
	l := make([]int64, long)
	for i := range l {
		l[i] = drawn(r)
	}
	return l
}

// checkModel holds a Size against the words: each field, or the error.
func checkModel(t *testing.T, l *losses, floor, top int64, needs []int64) {
	t.Helper()
	var set []loss
	for scene := range l {
		for member, n := range l[scene] {
			if n > 0 {
				set = append(set, loss{scene, member, n})
			}
		}
	}
	s := table(t, set...)
	if floor > top {
		checkNoSize(t, s, floor, top, needs, api.ErrRange)
		return
	}
	greatest, scene, ok := l.worst(needs)
	sum := new(big.Int)
	for _, need := range needs {
		sum.Add(sum, big.NewInt(need))
	}
	if !ok || sum.Cmp(big.NewInt(most)) > 0 {
		checkNoSize(t, s, floor, top, needs, api.ErrOver)
		return
	}
	three := []int64{floor, greatest, top}
	slices.Sort(three)
	got, err := fund.Size(s, floor, top, needs...)
	if err != nil || got.Floor != floor || got.Cap != top || got.Target != three[1] || got.Scene != scene {
		t.Errorf("Size(%v, %d, %d, %v) = %v, %v, want %d by scene %d", set, floor, top, needs, got, err, three[1], scene)
		return
	}
	checkShares(t, got.Target, needs, got.Shares)
}

// P24.1, P0.12: drawn sizings, of members up to all, are what the words say.
func TestAsTheWordsSay(t *testing.T) {
	r := rand.New(rand.NewSource(24))
	for range 20_000 {
		l := &losses{}
		for range r.Intn(30) {
			l[1+r.Intn(api.MaxScenes)][1+r.Intn(8)] = drawn(r)
		}
		members := r.Intn(9)
		if r.Intn(10) == 0 {
			members = r.Intn(api.MaxMember + 1)
		}
		needs := drawnList(r, members)
		if r.Intn(8) == 0 {
			needs = make([]int64, members)
		}
		floor, top := drawn(r), drawn(r)
		if r.Intn(3) > 0 {
			top = floor + int64(r.Intn(40))
		}
		checkModel(t, l, floor, min(top, most), needs)
	}
}

// P24.1: drawn lists of old and new shares: what is called for is what the words say.
func TestCallsAsTheWordsSay(t *testing.T) {
	r := rand.New(rand.NewSource(241))
	for range 5000 {
		old, next := drawnList(r, r.Intn(12)), drawnList(r, r.Intn(12))
		var want []int64
		for i := 0; i < len(old) || i < len(next); i++ {
			was, is := int64(0), int64(0)
			if i < len(old) {
				was = old[i]
			}
			if i < len(next) {
				is = next[i]
			}
			want = append(want, callOf(was, is))
		}
		checkCalls(t, old, next, want)
	}
}
