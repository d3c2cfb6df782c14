package rec_test

import (
	"bytes"
	"math"
	"slices"
	"testing"

	"pledge/api"
	"pledge/rec"
	"pledge/wire"
)

// repeated is n times the same number.
func repeated(n int, x int64) []int64 { return slices.Repeat([]int64{x}, n) }

// fitting are lists of numbers that Pack has room for, up to the last byte.
func fitting() [][]int64 {
	out := [][]int64{
		nil,
		{0},
		{-1, 64},
		{1, -1, 1 << 62, -1 << 40},
		{math.MinInt64, math.MaxInt64, 0, math.MinInt64 + 1},
		make([]int64, 63),
		make([]int64, 64),
		repeated(64, -64),
		repeated(32, 64),
		repeated(6, math.MaxInt64),
		append(repeated(6, math.MinInt64), 0, 0, 0, 0),
		append(repeated(4, 0), repeated(6, math.MinInt64)...),
		append(repeated(6, math.MaxInt64), 64, 64),
	}
	for i := range 63 {
		n := int64(1) << i
		out = append(out, []int64{n - 1, n, -n, -n - 1})
	}
	return out
}

// unpacks asks for just these numbers of b.
func unpacks(t *testing.T, b []byte, want []int64) {
	t.Helper()
	if got, err := rec.Unpack(b, len(want)); err != nil || !slices.Equal(got, want) {
		t.Errorf("Unpack(%v, %d) = %v, %v, want %v", b, len(want), got, err, want)
	}
}

// unpacksNot asks for an error at a place, and for no number.
func unpacksNot(t *testing.T, b []byte, n, at int, want error) {
	t.Helper()
	got, err := rec.Unpack(b, n)
	e, ok := err.(*api.At)
	if len(got) > 0 || !ok || e.Pos != at || e.Err != want {
		t.Errorf("Unpack(%v, %d) = %v, %v, want %v at %d", b, n, got, err, want, at)
	}
}

// P9.2
func TestPack(t *testing.T) {
	if b, err := rec.Pack(-1, 64); err != nil || !slices.Equal(b, []byte{1, 128, 1}) {
		t.Error(b, err)
	}
	if b, err := rec.Pack(); err != nil || len(b) != 0 {
		t.Error(b, err)
	}
	for _, l := range fitting() {
		b, err := rec.Pack(l...)
		if err != nil || !slices.Equal(b, wire.Put(nil, l...)) {
			t.Errorf("Pack(%v) = %v, %v", l, b, err)
		}
		unpacks(t, b, l)
	}
}

// P9.2: it is the bytes that are counted, not the numbers.
func TestPackMany(t *testing.T) {
	for _, l := range [][]int64{
		make([]int64, 65),
		make([]int64, 66),
		make([]int64, 100000),
		repeated(33, 64),
		append(repeated(32, 64), 0),
		append(repeated(63, 0), 64),
		repeated(7, math.MinInt64),
		append(repeated(6, math.MaxInt64), 0, 0, 0, 0, 0),
		append(repeated(6, math.MaxInt64), 0, 0, 0, -65),
	} {
		if b, err := rec.Pack(l...); len(b) > 0 || err != api.ErrMany {
			t.Errorf("Pack of %d numbers = %v, %v", len(l), b, err)
		}
	}
}

// P9.2: n is asked ahead of what the bytes say.
func TestUnpackRange(t *testing.T) {
	for _, n := range []int{-1, -2, -64, math.MinInt, 65, 66, 128, 256, math.MaxInt} {
		for _, b := range [][]byte{nil, {0}, {128}, {128, 0}, make([]byte, 65), make([]byte, 200)} {
			if got, err := rec.Unpack(b, n); len(got) > 0 || err != api.ErrRange {
				t.Errorf("Unpack(%v, %d) = %v, %v", b, n, got, err)
			}
		}
	}
	unpacks(t, make([]byte, 64), make([]int64, 64))
	unpacks(t, nil, nil)
	unpacks(t, []byte{}, nil)
}

// P9.2: ErrEnd at the number that lacks, whether it lacks all of its bytes or the last of them.
func TestUnpackEnd(t *testing.T) {
	for _, l := range fitting() {
		b := wire.Put(nil, l...)
		if len(l) < api.MaxValue {
			unpacksNot(t, b, len(l)+1, len(b), api.ErrEnd)
			unpacksNot(t, append(b, 128), len(l)+1, len(b), api.ErrEnd)
			unpacksNot(t, b, api.MaxValue, len(b), api.ErrEnd)
		}
	}
	for k := range 10 {
		last := bytes.Repeat([]byte{255}, k)
		unpacksNot(t, last, 1, 0, api.ErrEnd)
		unpacksNot(t, append([]byte{2, 128, 1}, last...), 3, 3, api.ErrEnd)
		unpacksNot(t, append([]byte{2, 128, 1}, last...), 9, 3, api.ErrEnd)
	}
}

// P9.2: ErrShape at the number that is not as Pack lays it.
func TestUnpackShape(t *testing.T) {
	for _, wrong := range [][]byte{
		{128, 0},
		{255, 255, 0},
		append(bytes.Repeat([]byte{255}, 9), 2),
		append(bytes.Repeat([]byte{128}, 9), 0),
		bytes.Repeat([]byte{128}, 10),
	} {
		unpacksNot(t, wrong, 1, 0, api.ErrShape)
		unpacksNot(t, append([]byte{2, 128, 1}, wrong...), 3, 3, api.ErrShape)
		unpacksNot(t, append([]byte{2, 128, 1}, append(wrong, 0, 0)...), 3, 3, api.ErrShape)
		unpacksNot(t, append([]byte{2, 128, 1}, wrong...), 64, 3, api.ErrShape)
	}
}

// P9.2: ErrShape at the first byte behind the n numbers, whatever that byte is.
func TestUnpackBehind(t *testing.T) {
	for _, l := range fitting() {
		b := wire.Put(nil, l...)
		for _, behind := range [][]byte{{0}, {2}, {128}, {128, 0}, {255, 255}, make([]byte, 300)} {
			unpacksNot(t, append(slices.Clone(b), behind...), len(l), len(b), api.ErrShape)
		}
		if len(l) > 0 {
			at := len(wire.Put(nil, l[:len(l)-1]...))
			unpacksNot(t, b, len(l)-1, at, api.ErrShape)
			unpacksNot(t, b, 0, 0, api.ErrShape)
		}
	}
}

// P9.2: Unpack counts numbers, not bytes: Pack's room is not asked for.
func TestUnpackOfLongNumbers(t *testing.T) {
	l := append(repeated(32, math.MinInt64), repeated(32, math.MaxInt64)...)
	b := wire.Put(nil, l...)
	if len(b) != 640 {
		t.Fatal(len(b))
	}
	unpacks(t, b, l)
	unpacksNot(t, append(b, 1), 64, 640, api.ErrShape)
	unpacksNot(t, b[:639], 64, 630, api.ErrEnd)
}

// P9.2, P0.4: what is handed in is neither changed nor kept, nor read behind its length; each answer is new memory.
func TestPackIsNewMemory(t *testing.T) {
	numbers := []int64{300, -300, 9}
	one, _ := rec.Pack(numbers[:2]...)
	other, _ := rec.Pack(numbers[:2]...)
	one = one[:cap(one)]
	for i := range one {
		one[i] = 99
	}
	if !slices.Equal(numbers, []int64{300, -300, 9}) || !slices.Equal(other, wire.Put(nil, 300, -300)) {
		t.Error(numbers, other)
	}
	room := append(slices.Clone(other), 2, 2)
	unpacks(t, room[:len(other)], numbers[:2])
	unpacksNot(t, room[:len(other)], 3, len(other), api.ErrEnd)
	first, _ := rec.Unpack(room[:len(other)], 2)
	second, _ := rec.Unpack(room[:len(other)], 2)
	first = first[:cap(first)]
	for i := range first {
		first[i] = 99
	}
	if !slices.Equal(room, append(slices.Clone(other), 2, 2)) || !slices.Equal(second, numbers[:2]) {
		t.Error(room, second)
	}
	clear(room)
	if !slices.Equal(second, numbers[:2]) {
		t.Error(second)
	}
}
