package fix_test

import (
	"math"
	"math/big"
	"math/bits"
	"testing"

	"pledge/fix"
)

// P2.1
func TestWide(t *testing.T) {
	const all = math.MaxUint64
	for _, x := range []struct{ a, b, upper, lower uint64 }{
		{0, 0, 0, 0},
		{0, all, 0, 0},
		{1, all, 0, all},
		{6, 7, 0, 42},
		{2, all, 1, all - 1},
		{1 << 32, 1 << 31, 0, 1 << 63},
		{1 << 32, 1 << 32, 1, 0},
		{1 << 63, 1 << 63, 1 << 62, 0},
		{1<<32 - 1, 1<<32 - 1, 0, 1<<64 - 1<<33 + 1},
		{1<<32 - 1, 1<<32 + 1, 0, all},
		{all, all, all - 1, 1},
		{all, 1<<32 - 1, 1<<32 - 2, 1<<64 - 1<<32 + 1},
	} {
		if upper, lower := fix.Wide(x.a, x.b); upper != x.upper || lower != x.lower {
			t.Errorf("Wide(%d, %d) = %d, %d; want %d, %d", x.a, x.b, upper, lower, x.upper, x.lower)
		}
	}
}

// P2.1: every carry from half to half, on both sides.
func TestWideAtEdges(t *testing.T) {
	for _, a := range edges() {
		for _, b := range edges() {
			upper, lower := fix.Wide(uint64(a), uint64(b))
			wantUpper, wantLower := bits.Mul64(uint64(a), uint64(b))
			if upper != wantUpper || lower != wantLower {
				t.Errorf("Wide(%d, %d) = %d, %d; want %d, %d", uint64(a), uint64(b), upper, lower, wantUpper, wantLower)
			}
		}
	}
}

// P2.2
func TestDiv(t *testing.T) {
	for _, x := range []struct {
		a, b, c int64
		up      bool
		want    int64
		ok      bool
	}{
		{7, 3, 2, true, 11, true},
		{7, 3, 2, false, 10, true},
		{-7, 3, 2, false, -11, true},
		{-7, 3, 2, true, -10, true},
		{7, -3, 2, false, -11, true},
		{7, -3, 2, true, -10, true},
		{-7, -3, 2, false, 10, true},
		{-7, -3, 2, true, 11, true},
		{6, 3, 2, true, 9, true},
		{6, -3, 2, false, -9, true},
		{1, 1, most, false, 0, true},
		{1, 1, most, true, 1, true},
		{-1, 1, most, false, -1, true},
		{-1, 1, most, true, 0, true},
		{0, -5, 3, false, 0, true},
		{0, 5, 3, true, 0, true},
		{most, most, most, false, most, true},
		{least, most, most, true, least, true},
		{least, least, most, false, 0, false},
		{least, -1, 1, false, 0, false},
		{least, 1, 1, false, least, true},
		{most, 4, 4, true, most, true},
	} {
		if n, ok := fix.Div(x.a, x.b, x.c, x.up); n != x.want || ok != x.ok {
			t.Errorf("Div(%d, %d, %d, %v) = %d, %v; want %d, %v", x.a, x.b, x.c, x.up, n, ok, x.want, x.ok)
		}
	}
}

// P2.2: false, if c is not above 0, whatever a and b are.
func TestDivOverNothingAbove0(t *testing.T) {
	for _, a := range edges() {
		for _, c := range []int64{0, -1, -2, least + 1, least} {
			for _, up := range []bool{false, true} {
				if n, ok := fix.Div(a, 6, c, up); n != 0 || ok {
					t.Errorf("Div(%d, 6, %d, %v) = %d, %v", a, c, up, n, ok)
				}
			}
		}
	}
}

// P2.2: whether it is a number of 64 bits is asked of what is cut, not of what was before.
func TestDivCutAtTheLimits(t *testing.T) {
	const (
		a, b = 1<<32 - 1, 1<<32 + 1        // 2^64 - 1 in all
		c, d = 274177, 67280421310721      // 2^64 + 1
		e, f = 31 * 8191, 145295143558111  // 2^65 - 1
		g, h = 3 * 11, 1117984489315730401 // 2^65 + 1
	)
	for _, x := range []struct {
		a, b, c int64
		up      bool
		want    int64
		ok      bool
	}{
		{a, b, 2, false, most, true},
		{a, b, 2, true, 0, false},
		{-a, b, 2, false, least, true},
		{a, -b, 2, true, -most, true},
		{c, d, 2, false, 0, false},
		{c, d, 2, true, 0, false},
		{-c, d, 2, false, 0, false},
		{c, -d, 2, true, least, true},
		{e, f, 2, false, 0, false},
		{e, f, 2, true, 0, false}, // just below 2^64: up must not go round to 0
		{-e, f, 2, false, 0, false},
		{-e, f, 2, true, 0, false},
		{g, h, 2, false, 0, false},
		{g, h, 2, true, 0, false},
		{-g, h, 2, true, 0, false},
		{1 << 62, 4, 1, false, 0, false}, // just 2^64
		{1 << 62, 4, 2, false, 0, false},
		{1 << 62, -4, 2, true, least, true},
	} {
		if n, ok := fix.Div(x.a, x.b, x.c, x.up); n != x.want || ok != x.ok {
			t.Errorf("Div(%d, %d, %d, %v) = %d, %v; want %d, %v", x.a, x.b, x.c, x.up, n, ok, x.want, x.ok)
		}
	}
}

// exactDiv is what Div has to answer, if c is above 0.
func exactDiv(a, b, c int64, up bool) (int64, bool) {
	p := new(big.Int).Mul(big.NewInt(a), big.NewInt(b))
	q, rest := new(big.Int).DivMod(p, big.NewInt(c), new(big.Int)) // rest is not below 0: q is cut down
	if up && rest.Sign() > 0 {
		q.Add(q, big.NewInt(1))
	}
	return whole(q)
}

// P2.2
func TestDivAtEdges(t *testing.T) {
	for _, a := range edges() {
		for _, b := range edges() {
			for _, c := range edges() {
				if c <= 0 {
					continue
				}
				for _, up := range []bool{false, true} {
					n, ok := fix.Div(a, b, c, up)
					if want, is := exactDiv(a, b, c, up); n != want || ok != is {
						t.Errorf("Div(%d, %d, %d, %v) = %d, %v; want %d, %v", a, b, c, up, n, ok, want, is)
					}
				}
			}
		}
	}
}

// P2.2
func TestCmp(t *testing.T) {
	for _, x := range []struct {
		a, b, c, d int64
		want       int
	}{
		{0, 0, 0, 0, 0},
		{2, 6, 3, 4, 0},
		{2, 6, 3, 5, -1},
		{3, 5, 2, 6, 1},
		{-2, 6, 3, 4, -1},
		{-2, 6, -3, 4, 0},
		{-2, -6, 3, 4, 0},
		{-2, 7, -3, 4, -1},
		{0, least, 0, most, 0},
		{0, least, -1, 1, 1},
		{least, least, most, most, 1},
		{least, most, most, least, 0},
		{least, most, least, least, -1},
		{least, most, -most, most, -1},
		{least, 1, 1 << 32, -1 << 31, 0},
		{1 << 62, 4, 1 << 32, 1 << 32, 0}, // just 2^64
		{1 << 62, 4, 0, 0, 1},
		{1 << 62, 2, most, 1, 1},               // 2^63 against one less
		{1 << 62, 2, 1, 1, 1},                  // the highest of the lower bits is no sign
		{-1, 1, -1 << 32, 1 << 32, 1},          // of two below 0 the lower bits go up too
		{most, most, most - 1, most, 1},        // apart in the upper bits by little
		{1<<32 + 1, 1<<32 - 1, 1, most, 1},     // 2^64 - 1 against 2^63 - 1
		{1<<32 + 1, 1<<32 - 1, 1 << 62, 4, -1}, // 2^64 - 1 against 2^64
	} {
		if n := fix.Cmp(x.a, x.b, x.c, x.d); n != x.want {
			t.Errorf("Cmp(%d, %d, %d, %d) = %d, want %d", x.a, x.b, x.c, x.d, n, x.want)
		}
		if n := fix.Cmp(x.c, x.d, x.b, x.a); n != -x.want {
			t.Errorf("Cmp(%d, %d, %d, %d) = %d, want %d", x.c, x.d, x.b, x.a, n, -x.want)
		}
	}
}

// P2.2
func TestCmpAtEdges(t *testing.T) {
	few := []int64{least, least + 1, -1 << 62, -1<<32 - 1, -1 << 32, -1 << 31, -3, -1, 0, 1, 2, 1 << 31, 1<<32 - 1, 1 << 32, 1 << 62, most - 1, most}
	products := map[[2]int64]*big.Int{}
	for _, a := range few {
		for _, b := range few {
			products[[2]int64{a, b}] = new(big.Int).Mul(big.NewInt(a), big.NewInt(b))
		}
	}
	for x, p := range products {
		for y, q := range products {
			if n, want := fix.Cmp(x[0], x[1], y[0], y[1]), p.Cmp(q); n != want {
				t.Errorf("Cmp(%d, %d, %d, %d) = %d, want %d", x[0], x[1], y[0], y[1], n, want)
			}
		}
	}
}
