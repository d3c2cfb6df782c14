package stress_test

import (
	"math"
	"slices"
	"testing"

	"pledge/api"
	"pledge/stress"
)

func cell(scene, member int) stress.Cell { return stress.Cell{Scene: scene, Member: member} }

func set(t *testing.T, s *stress.Table, c stress.Cell, loss int64, want error) {
	t.Helper()
	if err := s.Set(c, loss); err != want {
		t.Errorf("Set(%v, %d) = %v, want %v", c, loss, err, want)
	}
}

func checkGet(t *testing.T, s *stress.Table, c stress.Cell, want int64) {
	t.Helper()
	if got := s.Get(c); got != want {
		t.Errorf("Get(%v) = %d, want %d", c, got, want)
	}
}

func checkAll(t *testing.T, s *stress.Table, want ...stress.Cell) {
	t.Helper()
	if got := s.All(); !slices.Equal(got, want) {
		t.Errorf("All() = %v, want %v", got, want)
	}
}

// plain is a table told another way: each loss, by scene and member.
type plain [api.MaxScenes + 1][api.MaxMember + 1]int64

// check asks s for all that was set, which is to be just what p has.
func (p *plain) check(t *testing.T, s *stress.Table) {
	t.Helper()
	var all []stress.Cell
	for scene := range p {
		for member, loss := range p[scene] {
			checkGet(t, s, cell(scene, member), loss)
			if loss != 0 {
				all = append(all, cell(scene, member))
			}
		}
	}
	checkAll(t, s, all...)
}

// made is a table that has all that p has.
func (p *plain) made(t *testing.T) *stress.Table {
	t.Helper()
	s := &stress.Table{}
	for scene := range p {
		for member, loss := range p[scene] {
			if loss != 0 {
				set(t, s, cell(scene, member), loss, nil)
			}
		}
	}
	return s
}

// full is another loss at each cell.
func full() *plain {
	p := &plain{}
	for scene := 1; scene <= api.MaxScenes; scene++ {
		for member := 1; member <= api.MaxMember; member++ {
			p[scene][member] = int64(1000*scene + member)
		}
	}
	return p
}

// wrongNumbers are numbers of nothing, most being the greatest one that is of something; some
// would be one in fewer bits.
func wrongNumbers(most int) []int {
	return []int{0, -1, -2, -most, most + 1, most + 2, 2 * most, 64, 128 + 1, 256 + 2, 1<<16 + 2, 1<<32 + 1, 1<<32 + 2, 2 - 1<<32, math.MinInt, math.MinInt + 2, math.MaxInt - 1, math.MaxInt}
}

// wrongCells are cells that there are none of: the one number is wrong, the other, or both.
func wrongCells() []stress.Cell {
	var list []stress.Cell
	for _, scene := range wrongNumbers(api.MaxScenes) {
		for _, member := range []int{1, 2, api.MaxMember} {
			list = append(list, cell(scene, member))
		}
		for _, member := range wrongNumbers(api.MaxMember) {
			list = append(list, cell(scene, member))
		}
	}
	for _, member := range wrongNumbers(api.MaxMember) {
		for _, scene := range []int{1, 2, api.MaxScenes} {
			list = append(list, cell(scene, member))
		}
	}
	return list
}

// wrongAmounts are no amounts; some would be one in fewer bits.
func wrongAmounts() []int64 {
	return []int64{-1, -2, -5, -api.MaxMoney, api.MaxMoney + 1, api.MaxMoney + 2, 2 * api.MaxMoney, 1 - 1<<50, 1<<50 + 1, 1<<60 + 1, math.MinInt64, math.MinInt64 + 1, math.MinInt64 + 5, math.MaxInt64 - 1, math.MaxInt64}
}

// P22.1: in the zero value nothing is set; to set nothing there is to change nothing.
func TestNothing(t *testing.T) {
	var s stress.Table
	(&plain{}).check(t, &s)
	for scene := 1; scene <= api.MaxScenes; scene++ {
		for member := 1; member <= api.MaxMember; member++ {
			set(t, &s, cell(scene, member), 0, nil)
		}
	}
	(&plain{}).check(t, &s)
	(&plain{}).check(t, new(stress.Table))
}

// P22.1: each cell is one of its own: what is set there is there, and nowhere else, and 0 takes it away.
func TestEachCell(t *testing.T) {
	for scene := 1; scene <= api.MaxScenes; scene++ {
		for member := 1; member <= api.MaxMember; member++ {
			var s stress.Table
			set(t, &s, cell(scene, member), 7, nil)
			p := &plain{}
			p[scene][member] = 7
			p.check(t, &s)
			set(t, &s, cell(scene, member), 0, nil)
			(&plain{}).check(t, &s)
		}
	}
	p := full()
	s := p.made(t)
	p.check(t, s)
	for scene := 1; scene <= api.MaxScenes; scene++ {
		for member := 1; member <= api.MaxMember; member++ {
			set(t, s, cell(scene, member), 0, nil)
			p[scene][member] = 0
		}
		p.check(t, s)
	}
}

// P22.1: what is set takes the place of what was there, whatever that was.
func TestSetAgain(t *testing.T) {
	amounts := []int64{0, 1, 2, 50, api.MaxMoney - 1, api.MaxMoney}
	for _, first := range amounts {
		for _, second := range amounts {
			p := &plain{3: {4: first, 5: 9}, 4: {4: 8}}
			s := p.made(t)
			p.check(t, s)
			set(t, s, cell(3, 4), second, nil)
			p[3][4] = second
			p.check(t, s)
			set(t, s, cell(3, 4), first, nil)
			p[3][4] = first
			p.check(t, s)
		}
	}
}

// P22.1: what is out of its range is not set, and leaves all as it was.
func TestWrong(t *testing.T) {
	for _, p := range []*plain{full(), {}} {
		s := p.made(t)
		for _, c := range wrongCells() {
			for _, loss := range append(wrongAmounts(), 0, 1, 5, api.MaxMoney) {
				set(t, s, c, loss, api.ErrRange)
			}
			checkGet(t, s, c, 0)
		}
		for scene := 1; scene <= api.MaxScenes; scene++ {
			for member := 1; member <= api.MaxMember; member++ {
				for _, loss := range wrongAmounts() {
					set(t, s, cell(scene, member), loss, api.ErrRange)
				}
			}
		}
		p.check(t, s)
	}
}

// P22.1, P0.5: All is by scene, then member, in whatever order they were set.
func TestOrder(t *testing.T) {
	want := []stress.Cell{cell(1, 2), cell(1, 31), cell(2, 1), cell(2, 10), cell(10, 1), cell(10, 2), cell(16, 1), cell(16, 32)}
	for turn := range len(want) {
		turned := append(slices.Clone(want[turn:]), want[:turn]...)
		for range 2 {
			var s stress.Table
			for i, c := range turned {
				set(t, &s, c, int64(1+i), nil)
			}
			checkAll(t, &s, want...)
			slices.Reverse(turned)
		}
	}
}

// P0.4: the lists are new memory, their spare room too.
func TestListsAreNewMemory(t *testing.T) {
	want := []stress.Cell{cell(1, 2), cell(1, 3), cell(1, 4), cell(2, 1), cell(16, 32)}
	s := &stress.Table{}
	for _, c := range want {
		set(t, s, c, 5, nil)
	}
	one, other := s.All(), s.All()
	room := one[:cap(one)]
	for i := range room {
		room[i] = cell(9, 9)
	}
	_ = append(one, cell(8, 8))
	kept := func() {
		t.Helper()
		if !slices.Equal(other, want) {
			t.Errorf("another list shows %v, want %v", other, want)
		}
	}
	kept()
	checkAll(t, s, want...)
	set(t, s, cell(1, 2), 0, nil)
	kept()
	checkAll(t, s, want[1:]...)
}

// P0.5: tables do not touch each other, and asking changes nothing.
func TestApart(t *testing.T) {
	p, q := &plain{1: {1: 5}, 2: {3: 6}}, &plain{1: {1: 7}}
	a, b := p.made(t), q.made(t)
	for range 3 {
		p.check(t, a)
		q.check(t, b)
		checkTwo(t, a, 1, []int64{2}, 3, nil)
		checkCover(t, b, []int64{2}, 5, 1, nil)
	}
	set(t, a, cell(1, 1), 0, nil)
	p[1][1] = 0
	p.check(t, a)
	q.check(t, b)
}
