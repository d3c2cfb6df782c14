package op_test

import (
	"bytes"
	"math"
	"slices"
	"testing"

	"pledge/api"
	"pledge/op"
	"pledge/wire"
)

func checkRead(t *testing.T, b []byte, want api.Op, wantErr error) {
	t.Helper()
	if got, err := op.Read(b); got != want || err != wantErr {
		t.Errorf("Read(%v) = %+v, %v, want %+v, %v", b, got, err, want, wantErr)
	}
}

// checkReadAt asks for an error at a place, and for no operation.
func checkReadAt(t *testing.T, b []byte, at int, want error) {
	t.Helper()
	got, err := op.Read(b)
	e, ok := err.(*api.At)
	if got != (api.Op{}) || !ok || e.Pos != at || e.Err != want {
		t.Errorf("Read(%v) = %+v, %v, want %v at %d", b, got, err, want, at)
	}
}

// bytesOf are the Bytes of an operation that has some.
func bytesOf(t *testing.T, o api.Op) []byte {
	t.Helper()
	b, err := op.Bytes(o)
	if err != nil {
		t.Fatalf("Bytes(%+v): %v", o, err)
	}
	return b
}

// P25.1
func TestBytes(t *testing.T) {
	deposit := api.Op{ID: 7, Kind: op.Deposit, A: 1, B: 2, N: 100}
	if got := bytesOf(t, deposit); !slices.Equal(got, []byte{14, 20, 2, 4, 0, 0, 200, 1, 0}) {
		t.Error(got)
	}
	exchange := api.Op{ID: 64, Kind: op.Exchange, A: 1, B: 2, C: 3, N: 4, M: 5}
	if got := bytesOf(t, exchange); !slices.Equal(got, []byte{128, 1, 24, 2, 4, 6, 0, 8, 10}) {
		t.Error(got)
	}
	asset := api.Op{ID: 1, Kind: op.Asset, A: 1, B: 2, C: 3, D: 4, N: 5}
	if got := bytesOf(t, asset); !slices.Equal(got, []byte{2, 4, 2, 4, 6, 8, 10, 0}) {
		t.Error(got)
	}
}

// P25.1: all numbers one behind the other, and Read is back.
func TestBytesAndBack(t *testing.T) {
	for _, o := range goods() {
		b := bytesOf(t, o)
		if want := wire.Put(nil, numbersOf(o)...); !slices.Equal(b, want) {
			t.Errorf("Bytes(%+v) = %v, want %v", o, b, want)
		}
		checkRead(t, b, o, nil)
	}
}

// P25.1, P0.3: Valid's errors, bare, of Bytes and of Read; nothing beside.
func TestBytesOfNone(t *testing.T) {
	for _, x := range wrongs() {
		if b, err := op.Bytes(x.o); len(b) > 0 || err != x.err {
			t.Errorf("Bytes(%+v) = %v, %v, want %v", x.o, b, err, x.err)
		}
		if l := numbersOf(x.o); slices.Min(l) >= 0 && slices.Max(l) <= 1<<62 {
			checkRead(t, wire.Put(nil, l...), api.Op{}, x.err)
		}
	}
}

// P25.1: ErrMany, bare, of more than MaxText bytes, whatever they are; as many as that are read.
func TestReadMany(t *testing.T) {
	good := wire.Put(nil, numbersOf(goods()[0])...)
	for _, n := range []int{api.MaxText + 1, api.MaxText + 2, 2 * api.MaxText, 1 << 16} {
		for _, fill := range []byte{0, 1, 128, 255} {
			b := bytes.Repeat([]byte{fill}, n)
			checkRead(t, b, api.Op{}, api.ErrMany)
			copy(b, good)
			checkRead(t, b, api.Op{}, api.ErrMany)
		}
	}
	b := append(slices.Clone(good), make([]byte, api.MaxText)...)
	for n := len(good) + 1; n <= api.MaxText; n++ {
		checkReadAt(t, b[:n], len(good), api.ErrShape)
	}
}

// P25.1: ErrEnd at the number that lacks, whether it lacks all of its bytes or some.
func TestReadEnd(t *testing.T) {
	checkReadAt(t, nil, 0, api.ErrEnd)
	checkReadAt(t, []byte{}, 0, api.ErrEnd)
	for _, o := range goods() {
		l := numbersOf(o)
		b := wire.Put(nil, l...)
		for i := range l {
			from, to := len(wire.Put(nil, l[:i]...)), len(wire.Put(nil, l[:i+1]...))
			for n := from; n < to; n++ {
				checkReadAt(t, b[:n], from, api.ErrEnd)
			}
		}
	}
}

// P25.1: ErrShape at the first byte behind an operation, whatever it is, and ahead of Valid's errors.
func TestReadBehind(t *testing.T) {
	for _, behind := range [][]byte{{0}, {1}, {2, 2}, {128}, {128, 0}, {255, 255, 255}} {
		for _, o := range goods() {
			b := wire.Put(nil, numbersOf(o)...)
			checkReadAt(t, append(b, behind...), len(b), api.ErrShape)
		}
		for _, l := range [][]int64{make([]int64, 8), {1, 99, 0, 0, 0, 0, 0, 0}, {1, 13, 1, 0, 0, 0, 5, 0}, {1, 13, 0, 0, 0, 0, most + 1, 0}} {
			b := wire.Put(nil, l...)
			checkReadAt(t, append(b, behind...), len(b), api.ErrShape)
		}
	}
}

// P25.1: ErrShape at the number that is not as Put lays it, and ErrRange at the first that is not 0 to 2^62, ahead of all that Valid says.
func TestReadOfWrongNumbers(t *testing.T) {
	shapes := [][]byte{{128, 0}, {130, 128, 0}, append(bytes.Repeat([]byte{255}, 9), 2), bytes.Repeat([]byte{128}, 10)}
	numbers := []int64{-1, -2, -64, -1 << 40, -1 << 62, 1<<62 + 1, 1<<62 + 2, math.MaxInt64, math.MinInt64}
	for _, ahead := range [][]int64{{1, 13, 0, 0, 0, 0, 5, 0}, {0, 99, 7, 7, 7, 7, 7, 7}, {1 << 62, 1 << 62, 1 << 62, 1 << 62, 1 << 62, 1 << 62, 1 << 62, 1 << 62}} {
		for i := range ahead {
			at := len(wire.Put(nil, ahead[:i]...))
			for _, shape := range shapes {
				b := append(wire.Put(nil, ahead[:i]...), shape...)
				checkReadAt(t, append(b, wire.Put(nil, ahead[i+1:]...)...), at, api.ErrShape)
			}
			for _, n := range numbers {
				l := slices.Clone(ahead)
				l[i] = n
				b := wire.Put(nil, l...)
				checkReadAt(t, b, at, api.ErrRange)
				checkReadAt(t, append(b, 0), at, api.ErrRange)
				checkReadAt(t, b[:len(wire.Put(nil, l[:i+1]...))], at, api.ErrRange)
			}
		}
	}
}

// P25.1: numbers up to 2^62 are read; that there is no such operation Valid says, bare, also where fewer bits of the number would be one.
func TestReadOfGreatNumbers(t *testing.T) {
	tick := []int64{1, 13, 0, 0, 0, 0, 5, 0}
	for i := range tick {
		want := api.ErrRange
		if i == 1 {
			want = api.ErrKind
		}
		for _, n := range []int64{1 << 62, 1<<62 - 1, 1<<61 + tick[i], 1<<56 + tick[i], 1<<48 + tick[i], 1<<41 + tick[i], 1<<51 + tick[i]} {
			l := slices.Clone(tick)
			l[i] = n
			if i == 6 && n <= most {
				checkRead(t, wire.Put(nil, l...), api.Op{ID: 1, Kind: op.Tick, N: n}, nil)
				continue
			}
			checkRead(t, wire.Put(nil, l...), api.Op{}, want)
		}
	}
	for _, n := range []int64{1 << 32, 1<<32 + 1, 1<<33 + 5, 1<<32 + 1<<20, 1<<31 + 1, 1 << 31, 1<<21 + 1, 1<<24 + 1} {
		for i := 2; i < 6; i++ {
			l := []int64{1, op.Asset, 1, 2, 3, 4, 5, 0}
			l[i] = n
			checkRead(t, wire.Put(nil, l...), api.Op{}, api.ErrRange)
		}
		checkRead(t, wire.Put(nil, n, op.Tick, 0, 0, 0, 0, n, 0), api.Op{ID: n, Kind: op.Tick, N: n}, nil)
	}
	for _, n := range []int64{1 << 4, 1 << 8, 1 << 16, 1 << 31, 1 << 32, 1 << 33} {
		checkRead(t, wire.Put(nil, 1, n+op.Tick, 0, 0, 0, 0, 5, 0), api.Op{}, api.ErrKind)
	}
}

// P25.1, P0.2: of several of Valid's errors the first, in Read too.
func TestOrderOfRead(t *testing.T) {
	checkRead(t, wire.Put(nil, 0, 99, 0, 0, 0, 0, 0, 0), api.Op{}, api.ErrRange)
	checkRead(t, wire.Put(nil, 1<<40+1, 0, 0, 0, 0, 0, 0, 0), api.Op{}, api.ErrRange)
	checkRead(t, wire.Put(nil, 1, 0, 1<<40, 0, 0, 0, 0, 0), api.Op{}, api.ErrKind)
	checkRead(t, wire.Put(nil, 1, 17, 0, 0, 0, 0, 1<<60, 0), api.Op{}, api.ErrKind)
}

// P0.1: whatever two bytes a valid operation's are changed to, Read answers one that has just these bytes, or none.
func TestReadOfChangedBytes(t *testing.T) {
	for _, o := range goods() {
		b := bytesOf(t, o)
		for i := range b {
			for c := range 256 {
				changed := slices.Clone(b)
				changed[i] = byte(c)
				changed[len(b)-1-i] ^= byte(c >> 6)
				got, err := op.Read(changed)
				if err != nil && got != (api.Op{}) {
					t.Errorf("Read(%v) = %+v, %v", changed, got, err)
				}
				if err == nil && !slices.Equal(bytesOf(t, got), changed) {
					t.Errorf("Read(%v) = %+v", changed, got)
				}
			}
		}
	}
}

// P0.4: each answer of Bytes is new memory, its spare room too.
func TestBytesIsNewMemory(t *testing.T) {
	for _, o := range goods() {
		one, other := bytesOf(t, o), bytesOf(t, o)
		one = one[:cap(one)]
		for i := range one {
			one[i] = 99
		}
		if want := wire.Put(nil, numbersOf(o)...); !slices.Equal(other, want) || !slices.Equal(bytesOf(t, o), want) {
			t.Error(other)
		}
	}
}

// P0.4: Read changes nothing that is handed in, and reads nothing behind its length.
func TestReadHandedIn(t *testing.T) {
	for _, o := range goods() {
		b := bytesOf(t, o)
		room := append(slices.Clone(b), 2, 128, 0)
		was := slices.Clone(room)
		checkRead(t, room[:len(b)], o, nil)
		checkReadAt(t, room[:len(b)-1], len(wire.Put(nil, numbersOf(o)[:7]...)), api.ErrEnd)
		if !slices.Equal(room, was) {
			t.Error(room)
		}
	}
}
