package wire_test

import (
	"encoding/binary"
	"math"
	"slices"
	"testing"

	"pledge/wire"
)

// edges are the numbers around which the bytes of a number change in count or in sign.
func edges() []int64 {
	out := []int64{math.MinInt64, math.MinInt64 + 1, math.MaxInt64 - 1, math.MaxInt64}
	for i := range 63 {
		n := int64(1) << i
		out = append(out, n-1, n, n+1, -n-1, -n, -n+1)
	}
	return out
}

// P1.1
func TestPutOfOneNumber(t *testing.T) {
	for _, x := range []struct {
		n    int64
		want []byte
	}{
		{0, []byte{0}},
		{-1, []byte{1}},
		{1, []byte{2}},
		{-2, []byte{3}},
		{63, []byte{126}},
		{-64, []byte{127}},
		{64, []byte{128, 1}},
		{-65, []byte{129, 1}},
		{150, []byte{172, 2}},
		{8191, []byte{254, 127}},
		{-8192, []byte{255, 127}},
		{8192, []byte{128, 128, 1}},
		{1 << 62, []byte{128, 128, 128, 128, 128, 128, 128, 128, 128, 1}},
		{1<<62 - 1, []byte{254, 255, 255, 255, 255, 255, 255, 255, 127}},
		{math.MaxInt64, []byte{254, 255, 255, 255, 255, 255, 255, 255, 255, 1}},
		{math.MinInt64, []byte{255, 255, 255, 255, 255, 255, 255, 255, 255, 1}},
	} {
		if got := wire.Put(nil, x.n); !slices.Equal(got, x.want) {
			t.Errorf("Put(nil, %d) = %v, want %v", x.n, got, x.want)
		}
	}
}

// P1.1: the library's signed numbers have the same form.
func TestPutAtEveryEdge(t *testing.T) {
	for _, n := range edges() {
		if got, want := wire.Put(nil, n), binary.AppendVarint(nil, n); !slices.Equal(got, want) {
			t.Errorf("Put(nil, %d) = %v, want %v", n, got, want)
		}
	}
}

// P1.1
func TestPutOfSeveral(t *testing.T) {
	for _, x := range []struct {
		b    []byte
		l    []int64
		want []byte
	}{
		{nil, []int64{-1, 64}, []byte{1, 128, 1}},
		{nil, nil, nil},
		{[]byte{}, []int64{}, nil},
		{[]byte{200, 0}, nil, []byte{200, 0}},
		{[]byte{200, 0}, []int64{5, -1, 64, 0}, []byte{200, 0, 10, 1, 128, 1, 0}},
		{wire.Put(nil, 64), []int64{64}, []byte{128, 1, 128, 1}},
	} {
		if got := wire.Put(x.b, x.l...); !slices.Equal(got, x.want) {
			t.Errorf("Put(%v, %v) = %v, want %v", x.b, x.l, got, x.want)
		}
	}
}

// P1.1, P0.4: what is handed in stays as it is, behind its length too.
func TestPutChangesNothingHandedIn(t *testing.T) {
	room := []byte{1, 2, 3, 4, 5, 6, 7, 8}
	numbers := []int64{300, -300, 9}
	wire.Put(room[:2], numbers[:2]...)
	if !slices.Equal(room, []byte{1, 2, 3, 4, 5, 6, 7, 8}) || !slices.Equal(numbers, []int64{300, -300, 9}) {
		t.Error(room, numbers)
	}
}

// P1.1, P0.4: the answer is new memory, its spare room too, also with nothing to put.
func TestPutIsNewMemory(t *testing.T) {
	for _, l := range [][]int64{nil, {3}, {-70, 70}} {
		b := append(make([]byte, 0, 64), 7, 8)
		one, other := wire.Put(b, l...), wire.Put(b, l...)
		want := slices.Clone(other)
		for i := range one {
			one[i] = 99
		}
		one = one[:cap(one)]
		for i := range one {
			one[i] = 99
		}
		if !slices.Equal(b[:3], []byte{7, 8, 0}) || !slices.Equal(other, want) {
			t.Error(l, b, other)
		}
	}
}
