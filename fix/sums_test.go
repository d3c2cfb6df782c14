package fix_test

import (
	"math"
	"math/big"
	"slices"
	"testing"

	"pledge/fix"
)

const (
	most  = math.MaxInt64
	least = math.MinInt64
)

// edges are the numbers around which a sum or a product grows by a bit, or leaves a word or its half.
func edges() []int64 {
	out := []int64{least, least + 1, least + 2, -7, -3, 3, 5, 7, most - 2, most - 1, most}
	for _, i := range []int{0, 1, 15, 16, 30, 31, 32, 33, 47, 48, 61, 62} {
		n := int64(1) << i
		out = append(out, n-1, n, n+1, -n-1, -n, -n+1)
	}
	out = append(out, 3037000499, 3037000500, -3037000499, -3037000500) // the roots of 2^63
	slices.Sort(out)
	return slices.Compact(out)
}

// whole is what a number is, if it is one of 64 bits with a sign.
func whole(x *big.Int) (int64, bool) {
	if !x.IsInt64() {
		return 0, false
	}
	return x.Int64(), true
}

// checkPair asks a call of two numbers for the answer that the numbers without bounds have.
func checkPair(t *testing.T, name string, call func(a, b int64) (int64, bool), exact func(z, x, y *big.Int) *big.Int) {
	t.Helper()
	for _, a := range edges() {
		for _, b := range edges() {
			n, ok := call(a, b)
			want, is := whole(exact(new(big.Int), big.NewInt(a), big.NewInt(b)))
			if n != want || ok != is {
				t.Errorf("%s(%d, %d) = %d, %v; want %d, %v", name, a, b, n, ok, want, is)
			}
		}
	}
}

// P2.1
func TestAddSubMulAtEdges(t *testing.T) {
	checkPair(t, "Add", fix.Add, (*big.Int).Add)
	checkPair(t, "Sub", fix.Sub, (*big.Int).Sub)
	checkPair(t, "Mul", fix.Mul, (*big.Int).Mul)
}

// P2.1
func TestAddSubMul(t *testing.T) {
	for _, x := range []struct {
		name string
		call func(a, b int64) (int64, bool)
		a, b int64
		want int64
		ok   bool
	}{
		{"Add", fix.Add, 3, 4, 7, true},
		{"Add", fix.Add, -3, 2, -1, true},
		{"Add", fix.Add, 0, 0, 0, true},
		{"Add", fix.Add, most - 1, 1, most, true},
		{"Add", fix.Add, most, 1, 0, false},
		{"Add", fix.Add, most, most, 0, false},
		{"Add", fix.Add, least + 1, -1, least, true},
		{"Add", fix.Add, least, -1, 0, false},
		{"Add", fix.Add, least, least, 0, false},
		{"Add", fix.Add, least, most, -1, true},
		{"Sub", fix.Sub, 3, 4, -1, true},
		{"Sub", fix.Sub, least, least, 0, true},
		{"Sub", fix.Sub, least, 1, 0, false},
		{"Sub", fix.Sub, -2, most, 0, false},
		{"Sub", fix.Sub, -1, most, least, true},
		{"Sub", fix.Sub, 0, least, 0, false},
		{"Sub", fix.Sub, -1, least, most, true},
		{"Mul", fix.Mul, 6, -7, -42, true},
		{"Mul", fix.Mul, 0, least, 0, true},
		{"Mul", fix.Mul, least, 1, least, true},
		{"Mul", fix.Mul, least, -1, 0, false},
		{"Mul", fix.Mul, most, -1, -most, true},
		{"Mul", fix.Mul, 1 << 31, 1 << 32, 0, false},
		{"Mul", fix.Mul, 1 << 31, -1 << 32, least, true},
		{"Mul", fix.Mul, 1 << 32, 1 << 32, 0, false},
		{"Mul", fix.Mul, least, least, 0, false},
	} {
		if n, ok := x.call(x.a, x.b); n != x.want || ok != x.ok {
			t.Errorf("%s(%d, %d) = %d, %v; want %d, %v", x.name, x.a, x.b, n, ok, x.want, x.ok)
		}
	}
}

// P2.1: the whole sum is asked for, not those on the way.
func TestSum(t *testing.T) {
	for _, x := range []struct {
		l    []int64
		want int64
		ok   bool
	}{
		{nil, 0, true},
		{[]int64{}, 0, true},
		{[]int64{-5}, -5, true},
		{[]int64{least}, least, true},
		{[]int64{1, 2, 3, -10}, -4, true},
		{[]int64{most, 1}, 0, false},
		{[]int64{most, 1, -1}, most, true},
		{[]int64{1, -1, most}, most, true},
		{[]int64{least, -1}, 0, false},
		{[]int64{least, -1, 1}, least, true},
		{[]int64{most, most, least, least, 5}, 3, true},
		{[]int64{most, most, most, least, least, least, 3}, 0, true},
		{[]int64{least, least, most, most, 2}, 0, true},
		{[]int64{most, most, 2}, 0, false}, // just 2^64: once round, to 0
		{[]int64{least, least}, 0, false},
		{[]int64{most, most, most, most, 4}, 0, false},
		{[]int64{least, least, least, least}, 0, false},
		{[]int64{most, most, least}, most - 1, true},
		{[]int64{most, most, 2, least, least, least}, least, true},
	} {
		if n, ok := fix.Sum(x.l...); n != x.want || ok != x.ok {
			t.Errorf("Sum(%v) = %d, %v; want %d, %v", x.l, n, ok, x.want, x.ok)
		}
	}
}

// P2.1
func TestSumOfThreeEdges(t *testing.T) {
	l := edges()
	for _, a := range l {
		for _, b := range l {
			for _, c := range l {
				n, ok := fix.Sum(a, b, c)
				z := new(big.Int).Add(big.NewInt(a), big.NewInt(b))
				want, is := whole(z.Add(z, big.NewInt(c)))
				if n != want || ok != is {
					t.Errorf("Sum(%d, %d, %d) = %d, %v; want %d, %v", a, b, c, n, ok, want, is)
				}
			}
		}
	}
}

// P2.1: far above the numbers of 64 bits on the way, and back.
func TestSumOfMany(t *testing.T) {
	l := slices.Repeat([]int64{most}, 1000)
	if n, ok := fix.Sum(l...); n != 0 || ok {
		t.Error(n, ok)
	}
	l = append(l, slices.Repeat([]int64{-most}, 1000)...)
	if n, ok := fix.Sum(append(l, 42)...); n != 42 || !ok {
		t.Error(n, ok)
	}
}

// P2.1, P0.4: what is handed in stays as it is, behind its length too.
func TestSumChangesNothing(t *testing.T) {
	room := []int64{most, 1, -1, 9}
	if n, ok := fix.Sum(room[:3]...); n != most || !ok || !slices.Equal(room, []int64{most, 1, -1, 9}) {
		t.Error(n, ok, room)
	}
}
