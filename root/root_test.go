package root_test

import (
	"bytes"
	"math"
	"math/rand"
	"slices"
	"testing"

	"pledge/api"
	"pledge/root"
)

const maxEpoch = 1 << 40

func same(a, b root.Root) bool { return a.Epoch == b.Epoch && slices.Equal(a.List, b.List) }

func filled(n, of int) []int { return slices.Repeat([]int{of}, n) }

func falling(n int) []int {
	l := make([]int, n)
	for i := range l {
		l[i] = api.MaxSectors - i
	}
	return l
}

func laid(t *testing.T, r root.Root) []byte {
	t.Helper()
	b, err := root.Bytes(r)
	if err != nil || len(b) != api.SectorSize {
		t.Fatalf("Bytes(%v) = %d bytes, %v", r, len(b), err)
	}
	return b
}

func reads(t *testing.T, b []byte, want root.Root) {
	t.Helper()
	if r, ok := root.Read(b); !ok || !same(r, want) {
		t.Errorf("Read = %v, %v, want %v", r, ok, want)
	}
}

func isNone(t *testing.T, b []byte) {
	t.Helper()
	if r, ok := root.Read(b); ok || r.Epoch != 0 || len(r.List) != 0 {
		t.Errorf("Read(%v) = %v, %v, want none", b, r, ok)
	}
}

// some are roots of every kind: Epochs around the bytes' edges, lists of all lengths that matter.
func some() []root.Root {
	var l []root.Root
	for _, e := range []int64{1, 2, 3, 127, 128, 255, 256, 257, 511, 512, 65535, 65536, 65537, 1<<24 - 1, 1 << 24, 1<<32 - 1, 1 << 32, 1<<32 + 1, 1<<39 + 1, maxEpoch - 1, maxEpoch} {
		l = append(l,
			root.Root{Epoch: e},
			root.Root{Epoch: e, List: []int{int(e % 97)}},
			root.Root{Epoch: e, List: []int{0, 1, 255, 256, 257, 4096, api.MaxSectors - 1, api.MaxSectors}},
			root.Root{Epoch: e, List: falling(39)},
			root.Root{Epoch: e, List: filled(40, 0)},
			root.Root{Epoch: e, List: filled(40, api.MaxSectors)})
	}
	return l
}

// P6.1
func TestBytesThatAreNone(t *testing.T) {
	for _, x := range []struct {
		r    root.Root
		want error
	}{
		{root.Root{}, api.ErrRange},
		{root.Root{Epoch: -1}, api.ErrRange},
		{root.Root{Epoch: math.MinInt64}, api.ErrRange},
		{root.Root{Epoch: maxEpoch + 1}, api.ErrRange},
		{root.Root{Epoch: 1 << 41}, api.ErrRange},
		{root.Root{Epoch: 1<<48 + 1}, api.ErrRange},
		{root.Root{Epoch: math.MaxInt64}, api.ErrRange},
		{root.Root{Epoch: 1, List: []int{-1}}, api.ErrRange},
		{root.Root{Epoch: 1, List: []int{0, 1, math.MinInt}}, api.ErrRange},
		{root.Root{Epoch: 1, List: []int{api.MaxSectors + 1, 0}}, api.ErrRange},
		{root.Root{Epoch: 1, List: []int{5, 1 << 16}}, api.ErrRange},
		{root.Root{Epoch: 1, List: []int{5, math.MaxInt}}, api.ErrRange},
		{root.Root{Epoch: 1, List: append(filled(39, 0), -1)}, api.ErrRange},
		{root.Root{Epoch: 1, List: filled(41, 0)}, api.ErrMany},
		{root.Root{Epoch: maxEpoch, List: filled(41, api.MaxSectors)}, api.ErrMany},
		{root.Root{Epoch: 1, List: filled(256, 3)}, api.ErrMany},
		{root.Root{Epoch: 1, List: filled(5000, 3)}, api.ErrMany},
		// what is met first
		{root.Root{Epoch: 0, List: filled(41, 0)}, api.ErrRange},
		{root.Root{Epoch: 1, List: append(filled(41, 0), -1)}, api.ErrRange},
		{root.Root{Epoch: 1, List: append(filled(40, 0), api.MaxSectors+1)}, api.ErrRange},
	} {
		if b, err := root.Bytes(x.r); len(b) != 0 || err != x.want {
			t.Errorf("Bytes(%d, %d numbers) = %v, %v, want %v", x.r.Epoch, len(x.r.List), b, err, x.want)
		}
	}
}

// P6.1
func TestBytesAndBack(t *testing.T) {
	seen := map[string]bool{}
	for _, r := range some() {
		b := laid(t, r)
		reads(t, b, r)
		if seen[string(b)] {
			t.Errorf("%v has the bytes of another root", r)
		}
		seen[string(b)] = true
	}
	for n := range 41 {
		r := root.Root{Epoch: int64(n) + 1, List: falling(n)}
		reads(t, laid(t, r), r)
	}
	for n := range api.MaxSectors + 1 {
		r := root.Root{Epoch: 9, List: []int{api.MaxSectors - n, n}}
		reads(t, laid(t, r), r)
	}
}

// P6.1
func TestBytesAndBackOfAny(t *testing.T) {
	random := rand.New(rand.NewSource(6))
	for range 20000 {
		r := root.Root{Epoch: 1 + random.Int63n(maxEpoch)>>random.Intn(40), List: make([]int, random.Intn(41))}
		for i := range r.List {
			r.List[i] = random.Intn(api.MaxSectors + 1)
		}
		reads(t, laid(t, r), r)
	}
}

// P6.1
func TestReadOfNone(t *testing.T) {
	isNone(t, nil)
	isNone(t, []byte{})
	isNone(t, []byte{1})
	for c := range 256 {
		isNone(t, bytes.Repeat([]byte{byte(c)}, api.SectorSize))
	}
	for _, r := range some() {
		b := laid(t, r)
		for n := range b {
			isNone(t, b[:n])
			isNone(t, b[n+1:])
		}
		isNone(t, append(slices.Clone(b), 0))
		isNone(t, append([]byte{0}, b...))
		isNone(t, append(slices.Clone(b), b...))
	}
}

// backOrNone is Read of what may be no root: what it tells has just those bytes.
func backOrNone(t *testing.T, b []byte) {
	t.Helper()
	r, ok := root.Read(b)
	if !ok {
		isNone(t, b)
		return
	}
	if whole, err := root.Bytes(r); err != nil || !bytes.Equal(whole, b) {
		t.Fatalf("Read(%v) = %v, whose bytes they aren't", b, r)
	}
}

// P6.1
func TestReadOfChangedBytes(t *testing.T) {
	for _, r := range []root.Root{{Epoch: 1}, {Epoch: maxEpoch, List: []int{3, 8192}}, {Epoch: 77, List: falling(40)}} {
		whole := laid(t, r)
		for i := range whole {
			for c := range 256 {
				b := slices.Clone(whole)
				b[i] = byte(c)
				backOrNone(t, b)
			}
		}
	}
}

// P6.1: two places at once, as an Epoch stands in two.
func TestReadOfTwiceChangedBytes(t *testing.T) {
	for _, r := range []root.Root{{Epoch: 1}, {Epoch: maxEpoch, List: []int{3, 8192}}} {
		whole := laid(t, r)
		for i := range whole {
			for j := range i {
				for _, c := range []byte{0, 1, 2, 128, 255} {
					b := slices.Clone(whole)
					b[i], b[j] = c, c
					backOrNone(t, b)
				}
			}
		}
	}
}

// P6.1
func TestReadOfAnyBytes(t *testing.T) {
	random := rand.New(rand.NewSource(61))
	for range 20000 {
		b := make([]byte, api.SectorSize)
		for range random.Intn(20) {
			b[random.Intn(len(b))] = byte(random.Intn(256)) >> random.Intn(8)
		}
		backOrNone(t, b)
	}
}

// P6.2
func TestTorn(t *testing.T) {
	all := some()
	for _, a := range all {
		for _, b := range all {
			if a.Epoch != b.Epoch {
				tear(t, laid(t, a), laid(t, b), a, b)
			}
		}
	}
}

// tear reads b's first bytes with a's behind, for each count of them.
func tear(t *testing.T, old, fresh []byte, a, b root.Root) {
	t.Helper()
	for n := range len(old) + 1 {
		r, ok := root.Read(append(fresh[:n:n], old[n:]...))
		if ok && !same(r, a) && !same(r, b) {
			t.Fatalf("%d bytes of %v over %v: %v", n, b, a, r)
		}
		if !ok && (n == 0 || n == len(old)) {
			t.Fatalf("%d bytes of %v over %v: none", n, b, a)
		}
	}
}

// P6.2
func TestTornOverNothing(t *testing.T) {
	for _, b := range some() {
		fresh := laid(t, b)
		for n := range len(fresh) + 1 {
			torn := append(fresh[:n:n], make([]byte, len(fresh)-n)...)
			if r, ok := root.Read(torn); ok && !same(r, b) {
				t.Fatalf("%d bytes of %v over 0s: %v", n, b, r)
			}
			if n == 0 {
				isNone(t, torn)
			}
		}
	}
}

// P6.2: Epochs that differ in any of their bytes, or in all of them.
func TestTornOfAny(t *testing.T) {
	random := rand.New(rand.NewSource(62))
	for range 3000 {
		a := root.Root{Epoch: 1 + random.Int63n(maxEpoch), List: filled(random.Intn(41), random.Intn(api.MaxSectors))}
		b := root.Root{Epoch: 1 + ((a.Epoch - 1) ^ (1 << random.Intn(40))), List: filled(random.Intn(41), random.Intn(api.MaxSectors))}
		if random.Intn(2) == 0 {
			b.Epoch = 1 + random.Int63n(maxEpoch)
		}
		if a.Epoch != b.Epoch {
			tear(t, laid(t, a), laid(t, b), a, b)
		}
	}
}

// P0.4
func TestMemory(t *testing.T) {
	room := falling(40)
	r := root.Root{Epoch: 5, List: room[:3]}
	b := laid(t, r)
	again := laid(t, r)
	if !slices.Equal(room, falling(40)) {
		t.Error("Bytes changed what it was handed")
	}
	for i := range room {
		room[i] = 9
	}
	want := root.Root{Epoch: 5, List: falling(3)}
	reads(t, b, want)
	clear(b[:cap(b)])
	reads(t, again, want)

	first, _ := root.Read(again)
	second, _ := root.Read(again)
	clear(first.List[:cap(first.List)])
	first.List = append(first.List, 7)
	if !same(second, want) {
		t.Errorf("Read's answers share memory: %v", second)
	}
	spare := append(slices.Clone(again), 1, 2, 3)
	reads(t, spare[:api.SectorSize], want)
	clear(again)
	if !same(second, want) {
		t.Errorf("Read kept what it was handed: %v", second)
	}
	if !bytes.Equal(spare[api.SectorSize:], []byte{1, 2, 3}) {
		t.Error("Read wrote behind what it was handed")
	}
}

// P6.1, P0.4: nil and the empty list are the same.
func TestEmptyList(t *testing.T) {
	if !bytes.Equal(laid(t, root.Root{Epoch: 4}), laid(t, root.Root{Epoch: 4, List: []int{}})) {
		t.Error("nil and the empty list have other bytes")
	}
}
