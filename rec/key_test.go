package rec_test

import (
	"bytes"
	"math"
	"slices"
	"testing"

	"pledge/api"
	"pledge/rec"
)

const most = 1<<40 - 1

// key is the Key of a place that has one.
func key(t *testing.T, p rec.Place) []byte {
	t.Helper()
	b, err := rec.Key(p)
	if err != nil {
		t.Fatalf("Key(%+v): %v", p, err)
	}
	return b
}

// places are places at which each byte of a key is at its edges, rising.
func places() []rec.Place {
	var out []rec.Place
	for _, kind := range []int{0, 1, 2, 127, 128, 254, 255} {
		for _, a := range numbers() {
			for _, b := range numbers() {
				out = append(out, rec.Place{Kind: kind, A: a, B: b})
			}
		}
	}
	return out
}

// numbers are those around which the bytes of A and B change, rising.
func numbers() []int {
	return []int{0, 1, 127, 128, 255, 256, 257, 1<<16 - 1, 1 << 16, 1<<24 - 1, 1 << 24,
		1<<31 - 1, 1 << 31, 1<<32 - 1, 1 << 32, 1<<39 - 1, 1 << 39, most - 1, most}
}

// P9.1
func TestKey(t *testing.T) {
	for _, x := range []struct {
		p    rec.Place
		want []byte
	}{
		{rec.Place{Kind: 1, A: 2, B: 3}, []byte{1, 0, 0, 0, 0, 2, 0, 0, 0, 0, 3}},
		{rec.Place{}, make([]byte, 11)},
		{rec.Place{Kind: 255, A: most, B: most}, bytes.Repeat([]byte{255}, 11)},
		{rec.Place{Kind: 255}, []byte{255, 0, 0, 0, 0, 0, 0, 0, 0, 0, 0}},
		{rec.Place{A: most}, []byte{0, 255, 255, 255, 255, 255, 0, 0, 0, 0, 0}},
		{rec.Place{B: most}, []byte{0, 0, 0, 0, 0, 0, 255, 255, 255, 255, 255}},
		{rec.Place{Kind: 128, A: 256, B: 1 << 32}, []byte{128, 0, 0, 0, 1, 0, 1, 0, 0, 0, 0}},
		{rec.Place{Kind: 7, A: 0x0102030405, B: 0xfffefdfcfb}, []byte{7, 1, 2, 3, 4, 5, 255, 254, 253, 252, 251}},
	} {
		if got := key(t, x.p); !slices.Equal(got, x.want) {
			t.Errorf("Key(%+v) = %v, want %v", x.p, got, x.want)
		}
		if got, err := rec.Read(x.want); got != x.p || err != nil {
			t.Errorf("Read(%v) = %+v, %v, want %+v", x.want, got, err, x.p)
		}
	}
}

// P9.1: a number that is out of its range never goes round into another place's key.
func TestKeyRange(t *testing.T) {
	wrong := func(p rec.Place) {
		if b, err := rec.Key(p); len(b) > 0 || err != api.ErrRange {
			t.Errorf("Key(%+v) = %v, %v", p, b, err)
		}
	}
	for _, n := range []int{-1, -2, -256, -most, math.MinInt, math.MinInt + 1, most + 1, most + 2, 1 << 41, 1 << 48, 1 << 56, math.MaxInt} {
		for _, ok := range []int{0, 5} {
			wrong(rec.Place{Kind: n, A: ok, B: ok})
			wrong(rec.Place{Kind: ok, A: n, B: ok})
			wrong(rec.Place{Kind: ok, A: ok, B: n})
			wrong(rec.Place{Kind: n, A: n, B: n})
		}
	}
	for _, kind := range []int{256, 257, 511, 512, 1 << 16, most} {
		wrong(rec.Place{Kind: kind, A: 1, B: 1})
	}
}

// P9.1: back, from place to key and from key to place.
func TestReadIsBack(t *testing.T) {
	for _, p := range places() {
		if got, err := rec.Read(key(t, p)); got != p || err != nil {
			t.Errorf("Read of Key(%+v) = %+v, %v", p, got, err)
		}
	}
	for i := range 2000 {
		b := make([]byte, 11)
		for j := range b {
			b[j] = byte((i + 1) * (j + 3) * 2654435761 >> 16)
		}
		p, err := rec.Read(b)
		if err != nil {
			t.Fatal(b, err)
		}
		if got := key(t, p); !slices.Equal(got, b) {
			t.Errorf("Key(%+v) = %v, want %v", p, got, b)
		}
	}
}

// P9.1: ErrEnd with fewer bytes, ErrShape with more; what lies behind a key's length is not read.
func TestReadOfOtherLengths(t *testing.T) {
	for n := range 300 {
		want := api.ErrEnd
		if n > 11 {
			want = api.ErrShape
		}
		for _, fill := range []byte{0, 1, 255} {
			b := bytes.Repeat([]byte{fill}, 300)[:n]
			p, err := rec.Read(b)
			if n == 11 {
				if err != nil {
					t.Error(b, err)
				}
			} else if p != (rec.Place{}) || err != want {
				t.Errorf("Read of %d bytes = %+v, %v, want %v", n, p, err, want)
			}
		}
	}
	if p, err := rec.Read(nil); p != (rec.Place{}) || err != api.ErrEnd {
		t.Error(p, err)
	}
}

// P9.1: keys stand in the order of Kind, then A, then B, and Less tells it.
func TestLess(t *testing.T) {
	all := places()
	keys := make([][]byte, len(all))
	for i, p := range all {
		keys[i] = key(t, p)
	}
	for i, p := range all {
		for j, q := range all {
			if got := rec.Less(p, q); got != (i < j) || got != (bytes.Compare(keys[i], keys[j]) < 0) {
				t.Fatalf("Less(%+v, %+v) = %v", p, q, got)
			}
		}
	}
}

// P9.1: the order of the numbers, also of places that have no key.
func TestLessWithoutKeys(t *testing.T) {
	edges := []int{math.MinInt, math.MinInt + 1, -1 << 40, -1, 0, 255, 256, most, most + 1, math.MaxInt - 1, math.MaxInt}
	var all []rec.Place
	for _, kind := range edges {
		for _, a := range edges {
			for _, b := range edges {
				all = append(all, rec.Place{Kind: kind, A: a, B: b})
			}
		}
	}
	for i, p := range all {
		for j, q := range all {
			if got := rec.Less(p, q); got != (i < j) {
				t.Fatalf("Less(%+v, %+v) = %v", p, q, got)
			}
		}
	}
}

// P9.1, Ways: a Place is a value that may be a map's key.
func TestPlaceAsAMapsKey(t *testing.T) {
	at := map[rec.Place]int{}
	for i, p := range places() {
		at[p] = i + 1
	}
	for i, p := range places() {
		if q, err := rec.Read(key(t, p)); err != nil || at[q] != i+1 {
			t.Errorf("%+v: %d, %v", p, at[q], err)
		}
	}
}

// P9.1, P0.4: each key is new memory, its spare room too; what is handed in stays as it is.
func TestKeyIsNewMemory(t *testing.T) {
	p := rec.Place{Kind: 9, A: 1 << 35, B: 77}
	one, other := key(t, p), key(t, p)
	want := slices.Clone(other)
	one = one[:cap(one)]
	for i := range one {
		one[i] = 99
	}
	if !slices.Equal(other, want) || !slices.Equal(key(t, p), want) {
		t.Error(other)
	}
	room := append(slices.Clone(want), 1, 2, 3)
	if got, err := rec.Read(room[:11]); got != p || err != nil {
		t.Error(got, err)
	}
	if !slices.Equal(room, append(slices.Clone(want), 1, 2, 3)) {
		t.Error(room)
	}
}
