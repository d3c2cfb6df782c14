package op_test

import (
	"math"
	"strings"
	"testing"

	"pledge/api"
	"pledge/op"
)

const (
	mostID   = 1 << 40
	mostPart = 1 << 20
	most     = api.MaxMoney
)

// kindsOf are the kinds as the chapter tells them: by their numbers, from 1 on, their words and the fields that they use.
const kindsOf = `join A B N, asset A B C D N, price A N, rate A N, cut A B N, fxcut N, elig A B C, cap A B N,
need A N, deposit A B N, withdraw A B N, exchange A B C N M, tick N, rebate A N, scene A B N, fund N M`

// kind is a kind of the chapter: used are the places, in A B C D N M, of the fields that it uses.
type kind struct {
	number int
	word   string
	used   []int
}

func kinds() []kind {
	var out []kind
	for i, text := range strings.Split(kindsOf, ",") {
		words := strings.Fields(text)
		k := kind{number: i + 1, word: words[0]}
		for _, letter := range words[1:] {
			k.used = append(k.used, strings.Index("ABCDNM", letter))
		}
		out = append(out, k)
	}
	return out
}

func (k kind) uses(place int) bool {
	for _, p := range k.used {
		if p == place {
			return true
		}
	}
	return false
}

// with is o with n in the field at a place of A B C D N M.
func with(o api.Op, place int, n int64) api.Op {
	switch place {
	case 0:
		o.A = int(n)
	case 1:
		o.B = int(n)
	case 2:
		o.C = int(n)
	case 3:
		o.D = int(n)
	case 4:
		o.N = n
	case 5:
		o.M = n
	}
	return o
}

// numbersOf are all numbers of o, as bytes have them.
func numbersOf(o api.Op) []int64 {
	return []int64{o.ID, int64(o.Kind), int64(o.A), int64(o.B), int64(o.C), int64(o.D), o.N, o.M}
}

// greatest is the greatest number that the field at a place may have.
func greatest(place int) int64 {
	if place < 4 {
		return mostPart
	}
	return most
}

// filled is the operation of a kind whose used fields have what n says of their places.
func filled(id int64, k kind, n func(place int) int64) api.Op {
	o := api.Op{ID: id, Kind: k.number}
	for _, place := range k.used {
		o = with(o, place, n(place))
	}
	return o
}

// goods are operations of each kind: with 0s, with other numbers, and with the greatest.
func goods() []api.Op {
	var out []api.Op
	for _, k := range kinds() {
		out = append(out,
			filled(1, k, func(int) int64 { return 0 }),
			filled(2, k, func(int) int64 { return 1 }),
			filled(77, k, func(place int) int64 { return int64(10*k.number + place + 1) }),
			filled(mostID-1, k, func(place int) int64 { return greatest(place) - 1 }),
			filled(mostID, k, greatest))
	}
	return out
}

// wrong are operations that are not valid, and their errors.
type wrong struct {
	o   api.Op
	err error
}

func wrongs() []wrong {
	var out []wrong
	for _, k := range kinds() {
		good := filled(5, k, func(place int) int64 { return int64(place + 1) })
		for _, id := range []int64{0, -1, -5, mostID + 1, mostID + 2, 1<<41 + 5, math.MaxInt64, math.MinInt64, math.MinInt64 + 5} {
			o := good
			o.ID = id
			out = append(out, wrong{o, api.ErrRange})
		}
		for _, number := range wrongKinds() {
			o := good
			o.Kind = number
			out = append(out, wrong{o, api.ErrKind})
		}
		for place := range 6 {
			for _, n := range wrongNumbers(place) {
				out = append(out, wrong{with(good, place, n), api.ErrRange})
			}
			if !k.uses(place) {
				for _, n := range []int64{1, 2, 1 << 16, greatest(place)} {
					out = append(out, wrong{with(good, place, n), api.ErrRange})
				}
			}
		}
	}
	return out
}

func wrongKinds() []int {
	return []int{0, -1, -2, -16, 17, 18, 32, 33, 99, 256, 257, 1<<16 + 1, mostPart, math.MaxInt32, math.MinInt32, math.MaxInt, math.MinInt, math.MinInt + 1}
}

// wrongNumbers are those that no operation has in that field.
func wrongNumbers(place int) []int64 {
	most := greatest(place)
	out := []int64{-1, -2, -most, most + 1, most + 2, 2 * most, 1<<30 + 1, math.MaxInt32, math.MinInt32}
	if place > 3 {
		out = []int64{-1, -2, -most, most + 1, most + 2, 2 * most, 1 << 50, 1<<60 + 1, math.MaxInt64, math.MinInt64, math.MinInt64 + 1}
	} else if math.MaxInt > math.MaxInt32 {
		out = append(out, 1<<32, 1<<32+1, 1<<40+1, math.MaxInt64, math.MinInt64, math.MinInt64+1)
	}
	return out
}

func checkValid(t *testing.T, o api.Op, want error) {
	t.Helper()
	if err := op.Valid(o); err != want {
		t.Errorf("Valid(%+v) = %v, want %v", o, err, want)
	}
}

// P25.2: the kinds have their numbers, and Name their words.
func TestKinds(t *testing.T) {
	numbers := []int{op.Join, op.Asset, op.Price, op.Rate, op.Cut, op.FxCut, op.Elig, op.Cap,
		op.Need, op.Deposit, op.Withdraw, op.Exchange, op.Tick, op.Rebate, op.Scene, op.Fund}
	all := kinds()
	if len(all) != len(numbers) {
		t.Fatal(len(all))
	}
	for i, k := range all {
		if numbers[i] != k.number {
			t.Errorf("%s is %d, want %d", k.word, numbers[i], k.number)
		}
		if got := op.Name(numbers[i]); got != k.word {
			t.Errorf("Name(%d) = %q, want %q", numbers[i], got, k.word)
		}
	}
}

// P25.2, P0.7: no other kind has a word.
func TestNameOfNoKind(t *testing.T) {
	for _, number := range wrongKinds() {
		if got := op.Name(number); got != "" {
			t.Errorf("Name(%d) = %q", number, got)
		}
	}
	for number := -300; number < 600; number++ {
		if got := op.Name(number); (got != "") != (1 <= number && number <= 16) {
			t.Errorf("Name(%d) = %q", number, got)
		}
	}
}

// P25.1, P25.2: of each kind, with what it uses, from 0 to the greatest.
func TestValid(t *testing.T) {
	for _, o := range goods() {
		checkValid(t, o, nil)
	}
}

// P25.1, P25.2: each field alone, in each kind: 0 always, more only where it is used.
func TestValidField(t *testing.T) {
	for _, k := range kinds() {
		for place := range 6 {
			want := api.ErrRange
			if k.uses(place) {
				want = nil
			}
			bare := api.Op{ID: 9, Kind: k.number}
			checkValid(t, bare, nil)
			for _, n := range []int64{1, 2, 100, greatest(place) - 1, greatest(place)} {
				checkValid(t, with(bare, place, n), want)
			}
		}
	}
}

// P25.1: ErrRange, ErrKind.
func TestNotValid(t *testing.T) {
	for _, x := range wrongs() {
		checkValid(t, x.o, x.err)
	}
	checkValid(t, api.Op{}, api.ErrRange)
}

// P25.1, P0.2: ID is asked for first, then Kind, then the others.
func TestOrderOfValid(t *testing.T) {
	for _, number := range wrongKinds() {
		for _, n := range []int64{-1, 0, 1, mostPart + 1} {
			o := api.Op{ID: 1, Kind: number, A: int(n), B: int(n), C: int(n), D: int(n), N: n, M: n}
			checkValid(t, o, api.ErrKind)
			o.M = most + 1
			checkValid(t, o, api.ErrKind)
			for _, id := range []int64{0, -1, mostID + 1} {
				o.ID = id
				checkValid(t, o, api.ErrRange)
			}
		}
	}
}
