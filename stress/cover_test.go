package stress_test

import (
	"math"
	"slices"
	"testing"

	"pledge/api"
	"pledge/stress"
)

func checkTop(t *testing.T, l []int64, want int64, wantErr error) {
	t.Helper()
	if got, err := stress.Top(l...); got != want || err != wantErr {
		t.Errorf("Top(%v) = %d, %v, want %d, %v", l, got, err, want, wantErr)
	}
}

func checkTwo(t *testing.T, s *stress.Table, scene int, needs []int64, want int64, wantErr error) {
	t.Helper()
	if got, err := s.Two(scene, needs...); got != want || err != wantErr {
		t.Errorf("Two(%d, %v) = %d, %v, want %d, %v", scene, needs, got, err, want, wantErr)
	}
}

func checkCover(t *testing.T, s *stress.Table, needs []int64, want int64, wantScene int, wantErr error) {
	t.Helper()
	if got, scene, err := s.Cover(needs...); got != want || scene != wantScene || err != wantErr {
		t.Errorf("Cover(%v) = %d, %d, %v, want %d, %d, %v", needs, got, scene, err, want, wantScene, wantErr)
	}
}

// needless is what so many members need that need nothing.
func needless(members int) []int64 { return make([]int64, members) }

// P22.1: Top is the two greatest, added; of one it; of none 0.
func TestTop(t *testing.T) {
	for _, x := range []struct {
		l    []int64
		want int64
	}{
		{nil, 0},
		{[]int64{}, 0},
		{[]int64{0}, 0},
		{[]int64{1}, 1},
		{[]int64{api.MaxMoney}, api.MaxMoney},
		{[]int64{0, 0}, 0},
		{[]int64{0, 5}, 5},
		{[]int64{5, 0}, 5},
		{[]int64{3, 3}, 6},
		{[]int64{3, 3, 3}, 6},
		{[]int64{3, 2, 3}, 6},
		{[]int64{1, 2, 3, 4}, 7},
		{[]int64{4, 3, 2, 1}, 7},
		{[]int64{4, 1, 3, 2}, 7},
		{[]int64{1, 4, 2, 3}, 7},
		{[]int64{0, 0, 0, 9, 0}, 9},
	} {
		checkTop(t, x.l, x.want, nil)
	}
}

// P22.1: wherever the two greatest lie, and in whatever order, Top finds them.
func TestTopAnywhere(t *testing.T) {
	const long = 40
	for i := range long {
		for j := range long {
			if i == j {
				continue
			}
			l := make([]int64, long)
			for k := range l {
				l[k] = int64(100 + k%7)
			}
			l[i], l[j] = 1000, 600
			checkTop(t, l, 1600, nil)
			l[j] = 1000
			checkTop(t, l, 2000, nil)
		}
	}
}

// P22.1: Top is ErrOver above MaxMoney, and not at it.
func TestTopOver(t *testing.T) {
	const half = api.MaxMoney / 2
	for _, x := range []struct {
		l    []int64
		want int64
		err  error
	}{
		{[]int64{api.MaxMoney, 0}, api.MaxMoney, nil},
		{[]int64{0, api.MaxMoney}, api.MaxMoney, nil},
		{[]int64{api.MaxMoney, 1}, 0, api.ErrOver},
		{[]int64{1, api.MaxMoney}, 0, api.ErrOver},
		{[]int64{api.MaxMoney - 1, 1}, api.MaxMoney, nil},
		{[]int64{api.MaxMoney - 1, 2}, 0, api.ErrOver},
		{[]int64{api.MaxMoney, api.MaxMoney}, 0, api.ErrOver},
		{[]int64{half, half}, api.MaxMoney, nil},
		{[]int64{half + 1, half}, 0, api.ErrOver},
		{[]int64{half, half, half, half}, api.MaxMoney, nil}, // only two are added
		{[]int64{api.MaxMoney - 2, 1, 1, 1}, api.MaxMoney - 1, nil},
		{[]int64{0, 3, api.MaxMoney - 2}, 0, api.ErrOver},
	} {
		checkTop(t, x.l, x.want, x.err)
	}
	checkTop(t, slices.Repeat([]int64{api.MaxMoney}, 20_000), 0, api.ErrOver)
}

// P22.1: Top is ErrRange, if one is no amount, wherever it lies, and ahead of ErrOver.
func TestTopWrong(t *testing.T) {
	for _, wrong := range wrongAmounts() {
		checkTop(t, []int64{wrong}, 0, api.ErrRange)
		checkTop(t, []int64{wrong, wrong}, 0, api.ErrRange)
		for _, l := range [][]int64{{0, 0, 0, 0}, {1, 2, 3, 4}, {4, 3, 2, 1}, {api.MaxMoney, api.MaxMoney, 1, 1}} {
			for i := range l {
				bad := slices.Clone(l)
				bad[i] = wrong
				checkTop(t, bad, 0, api.ErrRange)
			}
		}
	}
}

// P22.1: Two is of each member's loss above its need, in that scene alone.
func TestTwo(t *testing.T) {
	p := &plain{2: {1: 20, 2: 40, 3: 50}, 3: {1: 900, 2: 800, 3: 700}, 1: {1: 90, 2: 80, 3: 70}}
	s := p.made(t)
	for _, x := range []struct {
		needs []int64
		want  int64
	}{
		{[]int64{0, 0, 0}, 90},
		{[]int64{1, 0, 0}, 90},
		{[]int64{0, 1, 0}, 89},
		{[]int64{0, 0, 1}, 89},
		{[]int64{0, 19, 0}, 71},
		{[]int64{0, 20, 0}, 70},
		{[]int64{0, 21, 0}, 70}, // now member 1 is the second
		{[]int64{0, 40, 50}, 20},
		{[]int64{20, 40, 50}, 0},
		{[]int64{19, 39, 49}, 2},
		{[]int64{21, 41, 51}, 0}, // what is needed above the loss is no loss of less than nothing
		{[]int64{21, 41, 49}, 1},
		{[]int64{api.MaxMoney, api.MaxMoney, api.MaxMoney}, 0},
		{[]int64{api.MaxMoney, api.MaxMoney, 0}, 50},
		{[]int64{api.MaxMoney, 0, 0}, 90},
		{[]int64{0, 0, 0, 0}, 90},
		{[]int64{0, 0, 0, api.MaxMoney}, 90},
		{needless(api.MaxMember), 90},
	} {
		checkTwo(t, s, 2, x.needs, x.want, nil)
	}
	checkTwo(t, s, 3, []int64{0, 0, 0}, 1700, nil)
	checkTwo(t, s, 1, []int64{0, 0, 0}, 170, nil)
	checkTwo(t, s, 4, []int64{0, 0, 0}, 0, nil)
	checkTwo(t, s, api.MaxScenes, []int64{0, 0, 0}, 0, nil)
	set(t, s, cell(2, 3), 0, nil)
	checkTwo(t, s, 2, []int64{0, 0, 0}, 60, nil)
}

// P22.1: Two is of such members alone as it was told the needs of.
func TestTwoOfThese(t *testing.T) {
	for scene := 1; scene <= api.MaxScenes; scene++ {
		p := &plain{}
		for member := 1; member <= api.MaxMember; member++ {
			p[scene][member] = int64(10 * member)
		}
		s := p.made(t)
		checkTwo(t, s, scene, nil, 0, nil)
		checkTwo(t, s, scene, needless(1), 10, nil)
		for members := 2; members <= api.MaxMember; members++ {
			checkTwo(t, s, scene, needless(members), int64(10*members+10*(members-1)), nil)
		}
	}
}

// P22.1: of the two greatest only what is above the needs must not be more than MaxMoney.
func TestTwoOver(t *testing.T) {
	p := &plain{7: {1: api.MaxMoney, 2: 1, 32: api.MaxMoney}}
	s := p.made(t)
	needs := needless(api.MaxMember)
	needs[31] = api.MaxMoney
	checkTwo(t, s, 7, needs, 0, api.ErrOver)
	needs[0] = 1
	checkTwo(t, s, 7, needs, api.MaxMoney, nil)
	needs[0], needs[1] = 0, 1
	checkTwo(t, s, 7, needs, api.MaxMoney, nil)
	needs[31] = api.MaxMoney - 1
	checkTwo(t, s, 7, needs, 0, api.ErrOver)
	needs[0] = api.MaxMoney - 5
	checkTwo(t, s, 7, needs, 6, nil)
	checkTwo(t, s, 6, needs, 0, nil)
	checkTwo(t, s, 7, []int64{0}, api.MaxMoney, nil)
	checkTwo(t, s, 7, []int64{0, 0}, 0, api.ErrOver)
}

// P22.1, P0.2, P0.3: what Two is not told rightly: too many ahead of all, then a number out of its range.
func TestTwoWrong(t *testing.T) {
	for _, s := range []*stress.Table{full().made(t), {}, (&plain{1: {1: api.MaxMoney, 2: api.MaxMoney}}).made(t)} {
		many := [][]int64{needless(33), needless(34), needless(64), needless(257), slices.Repeat([]int64{-1}, 33), slices.Repeat([]int64{api.MaxMoney + 1}, 65536)}
		for _, scene := range wrongNumbers(api.MaxScenes) {
			for _, needs := range [][]int64{nil, {0}, {-1}, {0, 0}, needless(32)} {
				checkTwo(t, s, scene, needs, 0, api.ErrRange)
			}
			for _, needs := range many {
				checkTwo(t, s, scene, needs, 0, api.ErrMany)
			}
		}
		for scene := 1; scene <= api.MaxScenes; scene++ {
			for _, needs := range many {
				checkTwo(t, s, scene, needs, 0, api.ErrMany)
			}
			for _, wrong := range wrongAmounts() {
				checkTwo(t, s, scene, []int64{wrong}, 0, api.ErrRange)
				checkTwo(t, s, scene, []int64{0, 0, wrong}, 0, api.ErrRange) // ahead of the ErrOver of the first two
				checkTwo(t, s, scene, append(needless(31), wrong), 0, api.ErrRange)
			}
		}
	}
}

// P22.1: with nothing set Cover is 0, of scene 1: the example.
func TestCoverOfNothing(t *testing.T) {
	var s stress.Table
	for _, needs := range [][]int64{nil, {}, {0}, {5}, {api.MaxMoney}, needless(api.MaxMember)} {
		checkCover(t, &s, needs, 0, 1, nil)
	}
	set(t, &s, cell(9, 3), 100, nil)
	checkCover(t, &s, needless(2), 0, 1, nil) // member 3 is not among those
	checkCover(t, &s, []int64{0, 0, 100}, 0, 1, nil)
	checkCover(t, &s, []int64{0, 0, 99}, 1, 9, nil)
	set(t, &s, cell(9, 3), 0, nil)
	checkCover(t, &s, needless(3), 0, 1, nil)
}

// P22.1: Cover is the greatest Two, of whatever scene.
func TestCover(t *testing.T) {
	for scene := 1; scene <= api.MaxScenes; scene++ {
		p := &plain{}
		for other := 1; other <= api.MaxScenes; other++ {
			p[other][2], p[other][4], p[other][6] = 30, 30, 30
		}
		p[scene][6] = 31
		s := p.made(t)
		checkCover(t, s, needless(6), 61, scene, nil)
		checkCover(t, s, needless(5), 60, 1, nil)
		checkCover(t, s, []int64{0, 0, 0, 0, 0, 1}, 60, 1, nil)
		checkCover(t, s, []int64{0, 2, 0, 2, 0, 0}, 59, scene, nil)
	}
}

// P22.1, P0.7: where several scenes have the greatest, it is of the first of them.
func TestCoverFirst(t *testing.T) {
	for first := 1; first <= api.MaxScenes; first++ {
		for second := first + 1; second <= api.MaxScenes; second++ {
			p := &plain{}
			p[first][1], p[first][2] = 5, 15
			p[second][3] = 20
			s := p.made(t)
			checkCover(t, s, needless(3), 20, first, nil)
			checkCover(t, s, []int64{1, 0, 0}, 20, second, nil)
			checkCover(t, s, []int64{0, 0, 1}, 20, first, nil)
			checkCover(t, s, []int64{1, 0, 1}, 19, first, nil)
		}
	}
}

// P22.1: one scene's worst may be of other members than another's; a sum is within one scene.
func TestCoverOfOneScene(t *testing.T) {
	p := &plain{2: {1: 100}, 3: {2: 90}, 4: {3: 60, 4: 45}, 5: {1: 1, 2: 1, 3: 1, 4: 1}}
	s := p.made(t)
	checkCover(t, s, needless(4), 105, 4, nil)
	checkCover(t, s, needless(3), 100, 2, nil)
	checkCover(t, s, []int64{50, 0, 60, 0}, 90, 3, nil)
	checkCover(t, s, []int64{99, 90, 60, 45}, 1, 2, nil)
	checkCover(t, s, []int64{100, 90, 60, 45}, 0, 1, nil)
}

// P22.1, P0.2, P0.3: Cover has Two's errors, wherever the scene is that has one, and nothing beside.
func TestCoverWrong(t *testing.T) {
	for scene := 1; scene <= api.MaxScenes; scene++ {
		p := full()
		p[scene][1], p[scene][2] = api.MaxMoney, 1
		s := p.made(t)
		checkCover(t, s, needless(2), 0, 0, api.ErrOver)
		checkCover(t, s, needless(32), 0, 0, api.ErrOver)
		checkCover(t, s, []int64{0, 1}, api.MaxMoney, scene, nil)
		checkCover(t, s, needless(1), api.MaxMoney, scene, nil)
		checkCover(t, s, needless(33), 0, 0, api.ErrMany)
		checkCover(t, s, slices.Repeat([]int64{math.MinInt64}, 33), 0, 0, api.ErrMany)
		for _, wrong := range wrongAmounts() {
			checkCover(t, s, []int64{0, 0, wrong}, 0, 0, api.ErrRange)
			checkCover(t, s, append(needless(31), wrong), 0, 0, api.ErrRange)
		}
	}
	var none stress.Table
	checkCover(t, &none, needless(33), 0, 0, api.ErrMany)
	checkCover(t, &none, []int64{-1}, 0, 0, api.ErrRange)
	checkCover(t, &none, []int64{api.MaxMoney + 1}, 0, 0, api.ErrRange)
}

// P0.4: what is handed in stays as it was, and what lies behind its length is neither read nor written.
func TestHandedIn(t *testing.T) {
	p := &plain{1: {1: 10, 2: 20, 3: 30, 4: 40, 5: 1000}}
	s := p.made(t)
	memory := []int64{3, 1, 2, 0, -1, 7}
	was := slices.Clone(memory)
	checkTwo(t, s, 1, memory[:4], 68, nil)
	checkCover(t, s, memory[:4], 68, 1, nil)
	checkTop(t, memory[:4], 5, nil)
	checkTop(t, memory[:2], 4, nil)
	checkTwo(t, s, 1, memory, 0, api.ErrRange)
	checkCover(t, s, memory, 0, 0, api.ErrRange)
	checkTop(t, memory, 0, api.ErrRange)
	if !slices.Equal(memory, was) {
		t.Errorf("what was handed in is %v now, and was %v", memory, was)
	}
	p.check(t, s)
}
