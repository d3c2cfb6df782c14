package wire_test

import (
	"bytes"
	"errors"
	"math"
	"slices"
	"testing"

	"pledge/api"
	"pledge/wire"
)

// full asks for any number at all.
func full(r *wire.Reader) int64 { return r.Num(math.MinInt64, math.MaxInt64) }

// checkGood asks for a reader without error, at that place, with so many bytes left.
func checkGood(t *testing.T, r *wire.Reader, at, left int) {
	t.Helper()
	if r.At() != at || r.Left() != left || r.Err() != nil {
		t.Errorf("at %d, left %d, %v; want at %d, left %d, no error", r.At(), r.Left(), r.Err(), at, left)
	}
}

// checkStopped asks for a reader that met that error at that place, and stays with it, whatever it is asked.
func checkStopped(t *testing.T, r *wire.Reader, at int, want error) {
	t.Helper()
	for range 2 {
		e, ok := r.Err().(*api.At)
		if !ok || e.Pos != at || e.Err != want || !errors.Is(r.Err(), want) {
			t.Errorf("error %v, want %v at %d", r.Err(), want, at)
		}
		if r.At() != at || r.Left() != 0 {
			t.Errorf("behind an error: at %d, left %d; want at %d, none left", r.At(), r.Left(), at)
		}
		if n := full(r); n != 0 || r.Num(5, 4) != 0 || r.Bool() {
			t.Errorf("it reads on behind an error: %d", n)
		}
	}
}

// P1.2
func TestReaderGoesOn(t *testing.T) {
	r := wire.NewReader([]byte{1, 128, 1, 0, 2, 254, 127})
	checkGood(t, r, 0, 7)
	for _, x := range []struct {
		n        int64
		at, left int
	}{{-1, 1, 6}, {64, 3, 4}, {0, 4, 3}, {1, 5, 2}, {8191, 7, 0}} {
		if n := full(r); n != x.n {
			t.Errorf("%d, want %d", n, x.n)
		}
		checkGood(t, r, x.at, x.left)
	}
	if full(r) != 0 {
		t.Error("a number behind the end")
	}
	checkStopped(t, r, 7, api.ErrEnd)
}

// P1.1, P1.2
func TestWhatWasPutIsRead(t *testing.T) {
	l := edges()
	b := wire.Put(nil, l...)
	r := wire.NewReader(b)
	for _, n := range l {
		if got := r.Num(n, n); got != n {
			t.Errorf("%d, want %d", got, n)
		}
	}
	checkGood(t, r, len(b), 0)
}

// P1.2: a reader of nothing is at its end, without error till it is asked.
func TestReaderOfNothing(t *testing.T) {
	for _, b := range [][]byte{nil, {}} {
		r := wire.NewReader(b)
		checkGood(t, r, 0, 0)
		if r.Num(0, 9) != 0 {
			t.Error("a number of nothing")
		}
		checkStopped(t, r, 0, api.ErrEnd)
	}
}

// P1.2: ErrEnd, however many bytes of a number are there, at its beginning.
func TestEnd(t *testing.T) {
	for k := range 10 {
		b := append([]byte{2}, bytes.Repeat([]byte{255}, k)...)
		r := wire.NewReader(b)
		if r.Num(0, 9) != 1 || r.Num(0, 9) != 0 {
			t.Error(b)
		}
		checkStopped(t, r, 1, api.ErrEnd)
	}
}

// P1.2: ErrShape, if the tenth byte is above 1, whether anything comes behind it or not.
func TestShapeOfTheTenth(t *testing.T) {
	for c := 2; c < 256; c++ {
		for _, tail := range [][]byte{nil, {0}, {1}, {128, 1}} {
			b := append(bytes.Repeat([]byte{128}, 9), byte(c))
			r := wire.NewReader(append(b, tail...))
			if full(r) != 0 {
				t.Error(c, tail)
			}
			checkStopped(t, r, 0, api.ErrShape)
		}
	}
	r := wire.NewReader(append(bytes.Repeat([]byte{128}, 9), 1, 4))
	if n := full(r); n != 1<<62 {
		t.Error(n)
	}
	checkGood(t, r, 10, 1)
}

// P1.2: ErrShape, if a number's last byte is 0 and is not its first.
func TestShapeOfALast0(t *testing.T) {
	for k := 1; k < 10; k++ {
		for _, fill := range []byte{128, 129, 255} {
			b := append([]byte{3}, bytes.Repeat([]byte{fill}, k)...)
			r := wire.NewReader(append(b, 0, 6))
			if n := full(r); n != -2 || full(r) != 0 {
				t.Error(k, fill, n)
			}
			checkStopped(t, r, 1, api.ErrShape)
		}
	}
}

// P1.2: a byte 128 within a number is none that is 0.
func TestSevenBitsOf0AmongOthers(t *testing.T) {
	r := wire.NewReader([]byte{128, 128, 1, 0, 0})
	if n := full(r); n != 8192 {
		t.Error(n)
	}
	checkGood(t, r, 3, 2)
	if full(r) != 0 || full(r) != 0 {
		t.Error("a 0")
	}
	checkGood(t, r, 5, 0)
}

// P1.2: of each number there is one form, the one that Put tells.
func TestOneForm(t *testing.T) {
	for i := range 1 << 16 {
		b := []byte{byte(i), byte(i >> 8)}
		r := wire.NewReader(b)
		n := full(r)
		if r.Err() == nil && !slices.Equal(wire.Put(nil, n), b[:r.At()]) {
			t.Errorf("%v is read as %d", b, n)
		}
		if good := b[0] < 128 || b[1] > 0 && b[1] < 128; good != (r.Err() == nil) {
			t.Errorf("%v: %v", b, r.Err())
		}
	}
}

// P1.2
func TestRange(t *testing.T) {
	for _, x := range []struct {
		n, low, high int64
		good         bool
	}{
		{5, 5, 5, true},
		{5, 5, 9, true},
		{5, 0, 5, true},
		{5, 6, 9, false},
		{5, 0, 4, false},
		{5, 9, 0, false},
		{5, 6, 4, false},
		{-5, -5, -5, true},
		{-5, -4, 5, false},
		{-5, -9, -6, false},
		{0, 1, 0, false},
		{0, 0, 0, true},
		{math.MaxInt64, 0, math.MaxInt64 - 1, false},
		{math.MaxInt64, math.MaxInt64, math.MaxInt64, true},
		{math.MinInt64, math.MinInt64 + 1, 0, false},
		{math.MinInt64, math.MinInt64, math.MinInt64, true},
		{0, math.MaxInt64, math.MinInt64, false},
	} {
		b := wire.Put(wire.Put(nil, 3), x.n)
		r := wire.NewReader(append(b, 2))
		r.Num(0, 9)
		n := r.Num(x.low, x.high)
		if x.good {
			if n != x.n {
				t.Errorf("%+v: %d", x, n)
			}
			checkGood(t, r, len(b), 1)
			continue
		}
		if n != 0 {
			t.Errorf("%+v: %d beside an error", x, n)
		}
		checkStopped(t, r, 1, api.ErrRange)
	}
}

// P1.2: the range is asked for last, the bytes in their order.
func TestOrderOfErrors(t *testing.T) {
	for _, x := range []struct {
		b    []byte
		want error
	}{
		{nil, api.ErrEnd},
		{[]byte{130}, api.ErrEnd},
		{[]byte{130, 0}, api.ErrShape},
		{[]byte{128, 0, 255}, api.ErrShape},
		{append(bytes.Repeat([]byte{255}, 9), 128), api.ErrShape},
		{append(bytes.Repeat([]byte{255}, 9), 0), api.ErrShape},
		{bytes.Repeat([]byte{255}, 9), api.ErrEnd},
		{[]byte{20}, api.ErrRange},
	} {
		r := wire.NewReader(x.b)
		if n := r.Num(9, 0); n != 0 {
			t.Error(x.b, n)
		}
		checkStopped(t, r, 0, x.want)
	}
}

// P1.2
func TestBool(t *testing.T) {
	r := wire.NewReader([]byte{2, 0, 2, 5})
	if !r.Bool() || r.Bool() || !r.Bool() {
		t.Error("not as 1, 0, 1")
	}
	checkGood(t, r, 3, 1)
	for _, x := range []struct {
		b    []byte
		want error
	}{
		{nil, api.ErrEnd},
		{[]byte{130}, api.ErrEnd},
		{[]byte{130, 0}, api.ErrShape},
		{[]byte{1}, api.ErrRange},
		{[]byte{3}, api.ErrRange},
		{[]byte{4}, api.ErrRange},
		{[]byte{130, 1}, api.ErrRange},
	} {
		r := wire.NewReader(append([]byte{2, 0}, x.b...))
		if !r.Bool() || r.Bool() || r.Bool() {
			t.Error(x.b)
		}
		checkStopped(t, r, 2, x.want)
	}
}

// P1.2: good numbers behind the first error are not read.
func TestTheFirstErrorStays(t *testing.T) {
	r := wire.NewReader([]byte{2, 20, 2, 2})
	if r.Num(0, 9) != 1 || r.Num(0, 9) != 0 || r.Num(0, 10) != 0 || r.Bool() {
		t.Error("it reads on")
	}
	checkStopped(t, r, 1, api.ErrRange)
}

// P1.2, P0.4: what is handed in is neither changed nor kept, nor read behind its length.
func TestReaderHasItsOwnBytes(t *testing.T) {
	room := []byte{2, 4, 130, 1}
	r := wire.NewReader(room[:3])
	if full(r) != 1 || !slices.Equal(room, []byte{2, 4, 130, 1}) {
		t.Error(room)
	}
	clear(room)
	if full(r) != 2 {
		t.Error("it reads what was written later")
	}
	checkGood(t, r, 2, 1)
	if full(r) != 0 {
		t.Error("it reads behind its end")
	}
	checkStopped(t, r, 2, api.ErrEnd)
}

// P0.5: no reader knows of another one.
func TestReadersApart(t *testing.T) {
	b := []byte{2, 4}
	one, other := wire.NewReader(b), wire.NewReader(b)
	if one.Num(5, 9) != 0 || full(other) != 1 || full(other) != 2 {
		t.Error("not apart")
	}
	checkStopped(t, one, 0, api.ErrRange)
	checkGood(t, other, 2, 0)
}
