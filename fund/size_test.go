package fund_test

import (
	"slices"
	"testing"

	"pledge/api"
	"pledge/fund"
	"pledge/stress"
)

// loss is what a member loses in a scene.
type loss struct {
	scene, member int
	n             int64
}

func table(t *testing.T, losses ...loss) *stress.Table {
	t.Helper()
	s := &stress.Table{}
	for _, l := range losses {
		if err := s.Set(stress.Cell{Scene: l.scene, Member: l.member}, l.n); err != nil {
			t.Fatal(l, err)
		}
	}
	return s
}

func same(f, g fund.Fund) bool {
	return f.Floor == g.Floor && f.Cap == g.Cap && f.Target == g.Target && f.Scene == g.Scene && slices.Equal(f.Shares, g.Shares)
}

func checkSize(t *testing.T, s *stress.Table, floor, top int64, needs []int64, want fund.Fund) {
	t.Helper()
	if got, err := fund.Size(s, floor, top, needs...); err != nil || !same(got, want) {
		t.Errorf("Size(%d, %d, %v) = %v, %v, want %v", floor, top, needs, got, err, want)
	}
}

func checkNoSize(t *testing.T, s *stress.Table, floor, top int64, needs []int64, want error) {
	t.Helper()
	if got, err := fund.Size(s, floor, top, needs...); err != want || !same(got, fund.Fund{}) {
		t.Errorf("Size(%d, %d, %v) = %v, %v, want %v", floor, top, needs, got, err, want)
	}
}

func sized(floor, top, target int64, scene int, shares ...int64) fund.Fund {
	return fund.Fund{Floor: floor, Cap: top, Target: target, Scene: scene, Shares: shares}
}

// alike is so many needs, or shares, of n.
func alike(members int, n int64) []int64 { return slices.Repeat([]int64{n}, members) }

// P24.1: no loss: the floor, by scene 1: the example.
func TestNoLoss(t *testing.T) {
	none := table(t)
	for _, floor := range []int64{0, 1, 6, most - 1, most} {
		checkSize(t, none, floor, most, nil, sized(floor, most, floor, 1))
		checkSize(t, none, floor, floor, []int64{}, sized(floor, floor, floor, 1))
		checkSize(t, none, floor, floor, []int64{9}, sized(floor, floor, floor, 1, floor))
		checkSize(t, none, floor, most, []int64{0}, sized(floor, most, floor, 1, floor))
	}
	checkSize(t, none, 6, 10, []int64{1, 2, 3}, sized(6, 10, 6, 1, 1, 2, 3))
	checkSize(t, none, 6, 10, []int64{0, 0, 0}, sized(6, 10, 6, 1, 2, 2, 2))
}

// P24.1: Target is what the worst scene costs, at least the floor, at most the cap; the scene is Cover's wherever the two stand.
func TestTarget(t *testing.T) {
	s := table(t, loss{2, 1, 60}, loss{2, 2, 40}, loss{2, 3, 38}, loss{5, 1, 50}, loss{5, 3, 49}, loss{9, 2, 98})
	needs := []int64{1, 2, 3} // scene 2 costs 59 and 38, 5 49 and 46, 9 96
	for _, x := range []struct{ floor, top, target int64 }{
		{0, most, 97},
		{0, 1000, 97},
		{50, 98, 97},
		{96, 98, 97},
		{97, 98, 97},
		{97, 97, 97},
		{0, 97, 97},
		{0, 96, 96},
		{96, 96, 96},
		{98, 98, 98},
		{98, 200, 98},
		{500, 1000, 500},
		{0, 1, 1},
		{1, 1, 1},
		{0, 0, 0},
		{most, most, most},
	} {
		got, err := fund.Size(s, x.floor, x.top, needs...)
		if err != nil || got.Target != x.target || got.Scene != 2 || got.Floor != x.floor || got.Cap != x.top || len(got.Shares) != 3 {
			t.Errorf("Size(%d, %d, %v) = %v, %v, want the target %d", x.floor, x.top, needs, got, err, x.target)
		}
	}
	checkSize(t, s, 0, 1000, []int64{1, 2, 0}, sized(0, 1000, 98, 5, 33, 65, 0))
	checkSize(t, s, 0, 1000, []int64{30, 0, 40}, sized(0, 1000, 98, 9, 42, 0, 56))
}

// P24.1, P0.7: of scenes that are as bad it is the first one, whichever that is.
func TestScene(t *testing.T) {
	for first := 1; first <= api.MaxScenes; first++ {
		s := table(t, loss{first, 3, 10}, loss{first, 1, 20})
		checkSize(t, s, 0, 100, []int64{0, 0, 5}, sized(0, 100, 25, first, 0, 0, 25))
		checkSize(t, s, 0, 0, []int64{0, 0, 5}, sized(0, 0, 0, first, 0, 0, 0))
		checkSize(t, s, 60, 60, []int64{0, 0, 5}, sized(60, 60, 60, first, 0, 0, 60))
		checkSize(t, s, 0, 100, []int64{20, 0, 10}, sized(0, 100, 0, 1, 0, 0, 0))
		for second := first + 1; second <= api.MaxScenes; second++ {
			s = table(t, loss{second, 2, 30}, loss{first, 3, 10}, loss{first, 1, 20})
			checkSize(t, s, 0, 100, []int64{0, 0, 0}, sized(0, 100, 30, first, 10, 10, 10))
			checkSize(t, s, 0, 100, []int64{0, 0, 1}, sized(0, 100, 30, second, 0, 0, 30))
			checkSize(t, s, 0, 100, []int64{0, 1, 0}, sized(0, 100, 30, first, 0, 30, 0))
		}
	}
}

// P24.1: Shares are share.Split's of Target by needs.
func TestShares(t *testing.T) {
	s := table(t, loss{3, 1, 70}, loss{3, 2, 50}, loss{4, 2, 100})
	for _, x := range []struct {
		floor, top int64
		needs      []int64
		want       fund.Fund
	}{
		{0, 1000, []int64{10, 20}, sized(0, 1000, 90, 3, 30, 60)},
		{0, 1000, []int64{10, 20, 0}, sized(0, 1000, 90, 3, 30, 60, 0)},
		{0, 1000, []int64{10, 20, 60}, sized(0, 1000, 90, 3, 10, 20, 60)},
		{0, 80, []int64{10, 20}, sized(0, 80, 80, 3, 27, 53)},
		{0, 85, []int64{10, 20}, sized(0, 85, 85, 3, 28, 57)},
		{100, 200, []int64{10, 20}, sized(100, 200, 100, 3, 33, 67)},
		{101, 200, []int64{10, 10, 10}, sized(101, 200, 101, 3, 34, 34, 33)},
		{0, 1000, []int64{70, 0}, sized(0, 1000, 100, 4, 100, 0)},
		{0, 1000, []int64{0, 70}, sized(0, 1000, 70, 3, 0, 70)},
		{0, 1000, []int64{7}, sized(0, 1000, 63, 3, 63)},
		{5, 1000, []int64{70, 100}, sized(5, 1000, 5, 1, 2, 3)},
		{0, 1000, []int64{70, 100}, sized(0, 1000, 0, 1, 0, 0)},
		{0, 0, []int64{1, 1}, sized(0, 0, 0, 3, 0, 0)},
		{1, 1, []int64{1, 1}, sized(1, 1, 1, 3, 1, 0)},
	} {
		checkSize(t, s, x.floor, x.top, x.needs, x.want)
	}
	checkSize(t, s, 11, 11, []int64{1, most - 1}, sized(11, 11, 11, 3, 0, 11))
	checkSize(t, s, most, most, []int64{1, most - 1}, sized(most, most, most, 3, 1, most-1))
}

// P24.1: if needs add up to 0, each has as much as any other, but for what is left over.
func TestSharesOfNeedless(t *testing.T) {
	for members := 1; members <= api.MaxMember; members++ {
		needs := make([]int64, members)
		s := table(t, loss{7, members, 10}, loss{7, 1 + members/2, 10})
		want := int64(20)
		if members == 1 {
			want = 10
		}
		for target := want; target < want+70; target++ {
			shares := alike(members, target/int64(members))
			for i := range target % int64(members) {
				shares[i]++
			}
			checkSize(t, s, target, most, needs, sized(target, most, target, 7, shares...))
		}
		checkSize(t, s, 0, 0, needs, sized(0, 0, 0, 7, needs...))
		for place := range members { // one need is enough, and all is its share
			one, shares := make([]int64, members), make([]int64, members)
			one[place], shares[place] = 1, 50
			got, err := fund.Size(s, 50, 50, one...)
			if err != nil || !slices.Equal(got.Shares, shares) {
				t.Errorf("Size of %v has %v, %v, want the shares %v", one, got, err, shares)
			}
		}
	}
}

// P24.1: without any member nothing is lost, and nobody has a share; the target is the floor nevertheless.
func TestNoMember(t *testing.T) {
	s := table(t, loss{3, 1, 70}, loss{3, 2, 50}, loss{4, 2, most})
	for _, none := range [][]int64{nil, {}} {
		checkSize(t, s, 5, 1000, none, sized(5, 1000, 5, 1))
		checkSize(t, s, 0, 1000, none, sized(0, 1000, 0, 1))
		checkSize(t, s, most, most, none, sized(most, most, most, 1))
		checkNoSize(t, s, 6, 5, none, api.ErrRange)
		got, _ := fund.Size(s, 5, 1000, none...)
		if len(got.Shares) != 0 {
			t.Errorf("without a member there are the shares %v", got.Shares)
		}
	}
}

// P24.1: only members whose needs are told count, all 32 of them.
func TestMembers(t *testing.T) {
	for members := 1; members <= api.MaxMember; members++ {
		var losses []loss
		for member := 1; member <= api.MaxMember; member++ {
			losses = append(losses, loss{6, member, int64(10 * member)})
		}
		target := int64(10*members + 10*(members-1) - 2)
		if members == 1 {
			target = 9
		}
		got, err := fund.Size(table(t, losses...), 0, most, alike(members, 1)...)
		if err != nil || got.Target != target || got.Scene != 6 || len(got.Shares) != members {
			t.Errorf("Size of %d members is %v, %v, want the target %d", members, got, err, target)
		}
	}
}

// P24.1, P0.2, P0.3: a floor or a cap that is no amount, or a floor above the cap, is ErrRange, ahead of ErrMany and all else.
func TestSizeOfWrongRange(t *testing.T) {
	lossy := table(t, loss{1, 1, most}, loss{1, 2, most})
	for _, s := range []*stress.Table{table(t), lossy} {
		for _, needs := range [][]int64{nil, {0}, {5, 6}, {0, 0}, {-1}, {most + 1}, {most, 1}, alike(33, 0), alike(33, -1)} {
			for _, wrong := range wrongAmounts() {
				checkNoSize(t, s, wrong, most, needs, api.ErrRange)
				checkNoSize(t, s, 0, wrong, needs, api.ErrRange)
				checkNoSize(t, s, wrong, wrong, needs, api.ErrRange)
				checkNoSize(t, s, 5, wrong, needs, api.ErrRange)
			}
			checkNoSize(t, s, 1, 0, needs, api.ErrRange)
			checkNoSize(t, s, 7, 5, needs, api.ErrRange)
			checkNoSize(t, s, most, most-1, needs, api.ErrRange)
		}
	}
}

// P24.1, P0.2, P0.3: needs of too many are ErrMany, ahead of a wrong one's ErrRange; that one is ahead of ErrOver.
func TestSizeOfWrongNeeds(t *testing.T) {
	lossy := table(t, loss{1, 1, most}, loss{1, 2, most})
	for _, s := range []*stress.Table{table(t), lossy} {
		for _, members := range []int{33, 34, 64, 257, 1<<16 + 1} {
			for _, need := range []int64{0, 1, most, -1, most + 1} {
				checkNoSize(t, s, 0, 5, alike(members, need), api.ErrMany)
			}
		}
		for _, wrong := range wrongAmounts() {
			checkNoSize(t, s, 0, 5, []int64{wrong}, api.ErrRange)
			checkNoSize(t, s, 0, 0, []int64{0, 0, wrong}, api.ErrRange)
			checkNoSize(t, s, 5, 5, []int64{most, most, wrong}, api.ErrRange)
			checkNoSize(t, s, 0, 5, append(alike(31, 0), wrong), api.ErrRange)
		}
		checkNoSize(t, s, 0, 5, []int64{5, -5}, api.ErrRange) // in all they would be 0
		checkNoSize(t, s, 0, 5, []int64{most + 1, -1}, api.ErrRange)
	}
	checkSize(t, table(t), 0, 5, alike(32, 0), sized(0, 5, 0, 1, alike(32, 0)...))
}

// P24.1, P0.3: losses of two above MaxMoney are ErrOver, whatever the cap; at MaxMoney they are not.
func TestSizeOfLossesOver(t *testing.T) {
	for scene := 1; scene <= api.MaxScenes; scene++ {
		s := table(t, loss{scene, 1, most}, loss{scene, 2, 1})
		for _, top := range []int64{0, 5, most} {
			checkNoSize(t, s, 0, top, []int64{0, 0}, api.ErrOver)
			checkNoSize(t, s, top, top, []int64{0, 0, 9}, api.ErrOver)
			checkSize(t, s, 0, top, []int64{0, 1}, sized(0, top, top, scene, 0, top))
		}
		checkSize(t, s, 0, most, []int64{1, 0}, sized(0, most, most, scene, most, 0))
		checkSize(t, s, 0, most, []int64{0}, sized(0, most, most, scene, most))
	}
}

// P24.1, P0.3: needs above MaxMoney in all are share's ErrOver, of a target of 0 too; at MaxMoney they are not.
func TestSizeOfNeedsOver(t *testing.T) {
	for _, s := range []*stress.Table{table(t), table(t, loss{2, 1, 70})} {
		for _, top := range []int64{0, 5, most} {
			for _, needs := range [][]int64{{most, 1}, {1, most}, {most, most}, {most / 2, most/2 + 1}, alike(32, most), alike(32, most/32+1)} {
				checkNoSize(t, s, 0, top, needs, api.ErrOver)
				checkNoSize(t, s, top, most, needs, api.ErrOver)
			}
			checkSize(t, s, 0, top, []int64{most}, sized(0, top, 0, 1, 0))
			checkSize(t, s, top, top, []int64{most / 2, most / 2}, sized(top, top, top, 1, top-top/2, top/2))
			checkSize(t, s, 0, top, alike(32, most/32), sized(0, top, 0, 1, alike(32, 0)...))
		}
	}
}

// P0.4: what is handed in to Size stays as it was, and what lies behind its length is neither read nor written.
func TestSizeHandedIn(t *testing.T) {
	s := table(t, loss{3, 1, 70}, loss{3, 2, 50}, loss{4, 2, 100})
	memory := []int64{10, 20, 0, 0, -1, 7}
	was := slices.Clone(memory)
	checkSize(t, s, 0, 80, memory[:2], sized(0, 80, 80, 3, 27, 53))
	checkSize(t, s, 0, 80, memory[:3], sized(0, 80, 80, 3, 27, 53, 0))
	checkSize(t, s, 9, 80, memory[:0], sized(9, 80, 9, 1))
	checkSize(t, s, 0, 81, memory[2:4], sized(0, 81, 81, 3, 41, 40))
	checkNoSize(t, s, 0, 80, memory, api.ErrRange)
	if !slices.Equal(memory, was) {
		t.Errorf("what was handed in is %v now, and was %v", memory, was)
	}
	cells := []stress.Cell{{Scene: 3, Member: 1}, {Scene: 3, Member: 2}, {Scene: 4, Member: 2}}
	if got := s.All(); !slices.Equal(got, cells) {
		t.Errorf("the table has %v now, and had %v", got, cells)
	}
}

// P0.4, P0.5: the shares are new memory, their spare room too, and sizing changes nothing.
func TestSharesAreNewMemory(t *testing.T) {
	s := table(t, loss{3, 1, 70}, loss{3, 2, 50})
	for _, x := range []struct {
		needs []int64
		want  fund.Fund
	}{
		{[]int64{10, 20}, sized(0, 100, 90, 3, 30, 60)},
		{[]int64{30, 60}, sized(0, 100, 40, 3, 13, 27)},
		{[]int64{0, 0}, sized(0, 100, 100, 3, 50, 50)},
		{[]int64{70, 50}, sized(0, 100, 0, 1, 0, 0)},
		{nil, sized(0, 100, 0, 1)},
	} {
		was := slices.Clone(x.needs)
		one, err := fund.Size(s, 0, 100, x.needs...)
		other, otherErr := fund.Size(s, 0, 100, x.needs...)
		if err != nil || otherErr != nil {
			t.Fatal(err, otherErr)
		}
		scribble(one.Shares)
		if !same(other, x.want) || !slices.Equal(x.needs, was) {
			t.Errorf("another fund shows %v, want %v; the needs %v, want %v", other, x.want, x.needs, was)
		}
		checkSize(t, s, 0, 100, x.needs, x.want)
	}
}
