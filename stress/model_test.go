package stress_test

import (
	"math/rand"
	"slices"
	"testing"

	"pledge/api"
)

// top is Top, worked out another way: by falling order.
func top(l []int64) (int64, error) {
	falling := append(slices.Clone(l), 0, 0)
	slices.Sort(falling)
	if falling[0] < 0 || falling[len(falling)-1] > api.MaxMoney {
		return 0, api.ErrRange
	}
	slices.Reverse(falling)
	if falling[0]+falling[1] > api.MaxMoney {
		return 0, api.ErrOver
	}
	return falling[0] + falling[1], nil
}

// two is Two of a scene that there is, and needs that there may be.
func (p *plain) two(scene int, needs []int64) (int64, error) {
	var above []int64
	for member, loss := range p[scene] {
		if 1 <= member && member <= len(needs) && loss > needs[member-1] {
			above = append(above, loss-needs[member-1])
		}
	}
	return top(above)
}

// cover is Cover of needs that there may be.
func (p *plain) cover(needs []int64) (int64, int, error) {
	var list []int64
	for scene := 1; scene <= api.MaxScenes; scene++ {
		two, err := p.two(scene, needs)
		if err != nil {
			return 0, 0, err
		}
		list = append(list, two)
	}
	most := slices.Max(list)
	return most, 1 + slices.Index(list, most), nil
}

// amounts are drawn from: small ones, so that several are as great, and great ones.
func amounts(r *rand.Rand) int64 {
	if r.Intn(20) == 0 {
		return []int64{api.MaxMoney / 2, api.MaxMoney/2 + 1, api.MaxMoney - 1, api.MaxMoney}[r.Intn(4)]
	}
	return int64(r.Intn(8))
}

func drawn(r *rand.Rand, long int) []int64 {
	l := make([]int64, long)
	for i := range l {
		l[i] = amounts(r)
	}
	return l
}

// P22.1: for long scripts of calls each answer and all that may be asked are what the words say.
func TestAsTheWordsSay(t *testing.T) {
	r := rand.New(rand.NewSource(22))
	for range 40 {
		p := &plain{}
		s := p.made(t)
		for range 100 {
			scene, member, loss := 1+r.Intn(api.MaxScenes), 1+r.Intn(8), amounts(r)
			set(t, s, cell(scene, member), loss, nil)
			p[scene][member] = loss
			needs := drawn(r, r.Intn(10))
			want, wantErr := p.two(scene, needs)
			checkTwo(t, s, scene, needs, want, wantErr)
			want, wantScene, wantErr := p.cover(needs)
			checkCover(t, s, needs, want, wantScene, wantErr)
		}
		p.check(t, s)
	}
}

// P22.1: Top of many drawn lists, with numbers that are no amounts among them, is what the words say.
func TestTopAsTheWordsSay(t *testing.T) {
	r := rand.New(rand.NewSource(221))
	for range 5000 {
		l := drawn(r, r.Intn(12))
		if len(l) > 0 && r.Intn(4) == 0 {
			wrong := wrongAmounts()
			l[r.Intn(len(l))] = wrong[r.Intn(len(wrong))]
		}
		want, wantErr := top(l)
		checkTop(t, l, want, wantErr)
	}
}
