package hold_test

import (
	"slices"
	"testing"

	"pledge/api"
	"pledge/hold"
)

// P14.1, P0.4: a clone has all that its first had, and neither shows what is done to the other behind it.
func TestClone(t *testing.T) {
	p := full()
	h := p.made(t)
	c := h.Clone()
	p.check(t, c)

	q := full()
	put(t, c, spot(1, 1), 5, nil)
	q[1][1] += 5
	take(t, c, spot(32, 32), q[32][32], nil)
	q[32][32] = 0
	q.check(t, c)
	p.check(t, h)

	put(t, h, spot(2, 2), 6, nil)
	p[2][2] += 6
	take(t, h, spot(3, 3), p[3][3], nil)
	p[3][3] = 0
	p.check(t, h)
	q.check(t, c)

	take(t, h, spot(3, 3), 1, api.ErrShort)
	take(t, c, spot(3, 3), 1, nil)
	put(t, c, spot(3, 3), api.MaxQty, api.ErrOver)
	put(t, h, spot(3, 3), api.MaxQty, nil)
}

// P14.1: a clone of nothing, one of what is there no more, and one of a clone are holdings as others are.
func TestCloneOfNothing(t *testing.T) {
	var h hold.Holdings
	emptied := &hold.Holdings{}
	put(t, emptied, spot(1, 2), 5, nil)
	take(t, emptied, spot(1, 2), 5, nil)
	for _, one := range []*hold.Holdings{&h, emptied, h.Clone()} {
		c := one.Clone()
		(&plain{}).check(t, c)
		take(t, c, spot(1, 2), 1, api.ErrShort)
		put(t, c, spot(1, 2), 5, nil)
		checkAll(t, c, has(1, 2, 5))
		checkAll(t, one)
		put(t, one, spot(2, 1), 6, nil)
		checkAll(t, c, has(1, 2, 5))
		checkAll(t, one, has(2, 1, 6))
	}
}

// P0.4: the lists are new memory, their spare room too.
func TestListsAreNewMemory(t *testing.T) {
	want := []api.Holding{has(1, 2, 5), has(1, 3, 6), has(1, 4, 7), has(2, 1, 8)}
	h := &hold.Holdings{}
	for _, x := range want {
		put(t, h, x.Spot, x.Qty, nil)
	}
	lists := [][]api.Holding{h.All(), h.Of(1), h.Of(2), h.Of(3), h.All(), h.Of(1), h.Of(2), h.Of(3)}
	for _, list := range lists[:4] {
		room := list[:cap(list)]
		for i := range room {
			room[i] = has(9, 9, 9)
		}
		_ = append(list, has(8, 8, 8))
	}
	kept := func() {
		t.Helper()
		for i, x := range [][]api.Holding{want, want[:3], want[3:], nil} {
			if got := lists[4+i]; !slices.Equal(got, x) {
				t.Errorf("another list shows %v, want %v", got, x)
			}
		}
	}
	kept()
	checkAll(t, h, want...)
	put(t, h, spot(1, 2), 1, nil)
	take(t, h, spot(2, 1), 8, nil)
	kept()
	checkAll(t, h, has(1, 2, 6), has(1, 3, 6), has(1, 4, 7))
}

// P0.5: holdings do not touch each other, and asking changes nothing.
func TestApart(t *testing.T) {
	p, q := &plain{}, &plain{}
	p[1][1], p[2][3], q[1][1] = 5, 6, 7
	a, b := p.made(t), q.made(t)
	for range 3 {
		p.check(t, a)
		q.check(t, b)
	}
	take(t, a, spot(1, 1), 5, nil)
	p[1][1] = 0
	p.check(t, a)
	q.check(t, b)
}
