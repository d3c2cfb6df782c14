package op_test

import (
	"math"
	"math/rand"
	"slices"
	"strconv"
	"strings"
	"testing"

	"pledge/api"
	"pledge/op"
)

func checkParse(t *testing.T, words []string, want api.Op, wantErr error) {
	t.Helper()
	if got, err := op.Parse(words...); got != want || err != wantErr {
		t.Errorf("Parse(%q) = %+v, %v, want %+v, %v", words, got, err, want, wantErr)
	}
}

func checkText(t *testing.T, o api.Op, want string) {
	t.Helper()
	if got := op.Text(o); got != want {
		t.Errorf("Text(%+v) = %q, want %q", o, got, want)
	}
}

// P25.2: an operation of each kind, and its words.
func TestText(t *testing.T) {
	for _, x := range []struct {
		o    api.Op
		text string
	}{
		{api.Op{ID: 1, Kind: op.Join, A: 2, B: 3, N: 4}, "1 join 2 3 4"},
		{api.Op{ID: 2, Kind: op.Asset, A: 3, B: 4, C: 5, D: 6, N: 7}, "2 asset 3 4 5 6 7"},
		{api.Op{ID: 3, Kind: op.Price, A: 4, N: 5}, "3 price 4 5"},
		{api.Op{ID: 4, Kind: op.Rate, A: 5, N: 6}, "4 rate 5 6"},
		{api.Op{ID: 5, Kind: op.Cut, A: 6, B: 7, N: 8}, "5 cut 6 7 8"},
		{api.Op{ID: 6, Kind: op.FxCut, N: 7}, "6 fxcut 7"},
		{api.Op{ID: 7, Kind: op.Elig, A: 8, B: 9, C: 10}, "7 elig 8 9 10"},
		{api.Op{ID: 8, Kind: op.Cap, A: 9, B: 10, N: 11}, "8 cap 9 10 11"},
		{api.Op{ID: 9, Kind: op.Need, A: 10, N: 11}, "9 need 10 11"},
		{api.Op{ID: 7, Kind: op.Deposit, A: 1, B: 2, N: 100}, "7 deposit 1 2 100"},
		{api.Op{ID: 11, Kind: op.Withdraw, A: 12, B: 13, N: 14}, "11 withdraw 12 13 14"},
		{api.Op{ID: 12, Kind: op.Exchange, A: 13, B: 14, C: 15, N: 16, M: 17}, "12 exchange 13 14 15 16 17"},
		{api.Op{ID: 13, Kind: op.Tick, N: 14}, "13 tick 14"},
		{api.Op{ID: 14, Kind: op.Rebate, A: 15, N: 16}, "14 rebate 15 16"},
		{api.Op{ID: 15, Kind: op.Scene, A: 16, B: 17, N: 18}, "15 scene 16 17 18"},
		{api.Op{ID: 16, Kind: op.Fund, N: 17, M: 18}, "16 fund 17 18"},
		{api.Op{ID: 1, Kind: op.Tick}, "1 tick 0"},
		{api.Op{ID: mostID, Kind: op.Fund, N: most, M: most}, "1099511627776 fund 1000000000000000 1000000000000000"},
		{api.Op{ID: 10, Kind: op.Elig, A: mostPart, C: mostPart}, "10 elig 1048576 0 1048576"},
	} {
		checkText(t, x.o, x.text)
		checkParse(t, strings.Split(x.text, " "), x.o, nil)
	}
}

// P25.2: Text of each kind as the chapter tells the kinds, and Parse is back.
func TestTextAndBack(t *testing.T) {
	all := kinds()
	for _, o := range goods() {
		k := all[o.Kind-1]
		words := []string{strconv.FormatInt(o.ID, 10), k.word}
		for _, place := range k.used {
			words = append(words, strconv.FormatInt(numbersOf(o)[2+place], 10))
		}
		checkText(t, o, strings.Join(words, " "))
		checkParse(t, words, o, nil)
	}
}

// P25.2, P0.3: nothing is the text of one that is not valid.
func TestTextOfNone(t *testing.T) {
	for _, x := range wrongs() {
		checkText(t, x.o, "")
	}
	checkText(t, api.Op{}, "")
}

// P25.2: ErrWord of fewer than two words.
func TestParseOfFewWords(t *testing.T) {
	checkParse(t, nil, api.Op{}, api.ErrWord)
	checkParse(t, []string{}, api.Op{}, api.ErrWord)
	for _, word := range []string{"", "7", "x", "tick", "join", "7 tick 1", "99999999999999999999"} {
		checkParse(t, []string{word}, api.Op{}, api.ErrWord)
	}
}

// P25.2: ErrWord of a second word that is no kind's, however near it comes, and whatever the others are.
func TestParseOfOtherWords(t *testing.T) {
	others := []string{"", " ", "0", "1", "13", "x", "nop", "7", "Tick", "TICK", "tic", "ticks", "tick ", " tick", "tick\n", "tic\u212a", "op", "joinasset", "ABN", "join A B N"}
	for _, k := range kinds() {
		others = append(others, k.word+"s", k.word[1:], k.word[:len(k.word)-1], strings.ToUpper(k.word), k.word+" ", k.word+"\x00", k.word+k.word)
	}
	for _, word := range others {
		for n := range 8 {
			behind := slices.Repeat([]string{"1"}, n)
			checkParse(t, append([]string{"7", word}, behind...), api.Op{}, api.ErrWord)
			checkParse(t, append([]string{"x", word}, behind...), api.Op{}, api.ErrWord)
		}
	}
	checkParse(t, []string{"tick", "7", "1"}, api.Op{}, api.ErrWord)
}

// P25.2, P0.2: ErrWord of fewer or more words behind than the kind uses, ahead of ErrNumber and of Valid's.
func TestParseOfOtherCounts(t *testing.T) {
	for _, k := range kinds() {
		for n := range 12 {
			words := append([]string{"7", k.word}, slices.Repeat([]string{"1"}, n)...)
			if n == len(k.used) {
				checkParse(t, words, filled(7, k, func(int) int64 { return 1 }), nil)
				continue
			}
			checkParse(t, words, api.Op{}, api.ErrWord)
			for _, other := range []string{"0", "x", "", "01", "999999999999999999"} {
				words[0] = other
				checkParse(t, words, api.Op{}, api.ErrWord)
				words[len(words)-1] = other
				if n > 0 {
					checkParse(t, words, api.Op{}, api.ErrWord)
				}
			}
		}
	}
}

// noNumbers are words that are no number, though some come near to one.
func noNumbers() []string {
	return []string{"", " ", "x", "-1", "+1", "-0", "+0", "--1", "01", "00", "007", "000000000000000001", "1 ", " 1", "1\n", "1.0", "1.", ".5", "1e3",
		"0x1", "0b1", "0o7", "0_1", "1_000", "1,000", "a1", "1a", "1x", "\u0661", "\uff11", "1\x00", "\x001", "\xff", "1-", "NaN", "tick", "-",
		"1000000000000000000", "1234567890123456789", "9223372036854775807", "9223372036854775808", "18446744073709551617", "10000000000000000000000000",
		"0000000000000000000", strings.Repeat("9", 1000), "-999999999999999999", "-9223372036854775808"}
}

// P25.2: ErrNumber, wherever the word that is no number stands, and ahead of Valid's errors.
func TestParseOfNoNumber(t *testing.T) {
	for _, k := range kinds() {
		for i := range len(k.used) + 2 {
			if i == 1 {
				continue
			}
			for _, other := range []string{"1", "0", "999999999999999999"} {
				words := slices.Repeat([]string{other}, len(k.used)+2)
				words[1] = k.word
				for _, word := range noNumbers() {
					words[i] = word
					checkParse(t, words, api.Op{}, api.ErrNumber)
				}
			}
		}
	}
}

// P25.2: of one to 18 digits a word is a number; whether there is such an operation Valid says.
func TestParseOfDigits(t *testing.T) {
	for n := 1; n <= 18; n++ {
		for _, digit := range "19" {
			word := strings.Repeat(string(digit), n)
			number, err := strconv.ParseInt(word, 10, 64)
			if err != nil {
				t.Fatal(err)
			}
			checkParsed(t, []string{"7", "tick", word}, api.Op{ID: 7, Kind: op.Tick, N: number})
			checkParsed(t, []string{word, "tick", "1"}, api.Op{ID: number, Kind: op.Tick, N: 1})
			checkParsed(t, []string{"7", "fund", "1", word}, api.Op{ID: 7, Kind: op.Fund, N: 1, M: number})
			if number <= math.MaxInt {
				checkParsed(t, []string{"7", "price", word, "1"}, api.Op{ID: 7, Kind: op.Price, A: int(number), N: 1})
			}
		}
	}
	for c := range 256 {
		want := api.ErrNumber
		o := api.Op{}
		if '0' <= c && c <= '9' {
			want, o = nil, api.Op{ID: 7, Kind: op.Tick, N: int64(c - '0')}
		}
		checkParse(t, []string{"7", "tick", string([]byte{byte(c)})}, o, want)
		want, o = api.ErrNumber, api.Op{}
		if '0' <= c && c <= '9' {
			want, o = nil, api.Op{ID: 7, Kind: op.Tick, N: 20 + int64(c-'0')}
		}
		checkParse(t, []string{"7", "tick", string([]byte{'2', byte(c)})}, o, want)
	}
}

// checkParsed asks for o, or for what Valid says of it.
func checkParsed(t *testing.T, words []string, o api.Op) {
	t.Helper()
	if err := op.Valid(o); err != nil {
		checkParse(t, words, api.Op{}, err)
		return
	}
	checkParse(t, words, o, nil)
}

// P25.2, P0.3: Valid's errors, bare, also where fewer bits of the number would be one.
func TestParseOfNotValid(t *testing.T) {
	for _, id := range []string{"0", "1099511627777", "4398046511111", "999999999999999999"} {
		checkParse(t, []string{id, "tick", "1"}, api.Op{}, api.ErrRange)
	}
	for _, k := range kinds() {
		for i, place := range k.used {
			words := slices.Repeat([]string{"1"}, len(k.used)+2)
			words[1] = k.word
			over := []int64{greatest(place) + 1, greatest(place) + 2, 2 * greatest(place), 1<<56 + 1, 999999999999999999}
			if place < 4 {
				over = append(over, 1<<32, 1<<32+1, 1<<33+5, 1<<40+1, 1<<48+1)
			}
			for _, n := range over {
				words[2+i] = strconv.FormatInt(n, 10)
				checkParse(t, words, api.Op{}, api.ErrRange)
			}
			words[2+i] = strconv.FormatInt(greatest(place), 10)
			o := filled(1, k, func(int) int64 { return 1 })
			checkParse(t, words, with(o, place, greatest(place)), nil)
		}
	}
}

// P0.4: Parse changes no word of a list that is handed in, and reads none behind its length.
func TestParseHandedIn(t *testing.T) {
	room := []string{"7", "deposit", "1", "2", "100", "4"}
	was := slices.Clone(room)
	checkParse(t, room[:5], api.Op{ID: 7, Kind: op.Deposit, A: 1, B: 2, N: 100}, nil)
	checkParse(t, room[:4], api.Op{}, api.ErrWord)
	checkParse(t, room, api.Op{}, api.ErrWord)
	if !slices.Equal(room, was) {
		t.Error(room)
	}
}

// drawn is a number around a power of two, often not above most.
func drawn(r *rand.Rand) int64 {
	switch r.Intn(6) {
	case 0:
		return 0
	case 1:
		return int64(1)<<r.Intn(60) + int64(r.Intn(3)-1)
	}
	return r.Int63n(1 << (1 + r.Intn(22)))
}

// P25.1, P25.2: drawn operations, mostly with what their kind uses: Valid as the words say it, and both ways there and back.
func TestDrawn(t *testing.T) {
	r := rand.New(rand.NewSource(25))
	all := kinds()
	good := 0
	for range 50000 {
		k := all[r.Intn(len(all))]
		o := filled(drawn(r), k, func(place int) int64 { return min(drawn(r), math.MaxInt32) })
		if r.Intn(8) == 0 {
			o = with(o, r.Intn(6), int64(r.Intn(5)-1))
		}
		want := modelValid(o)
		checkValid(t, o, want)
		if want != nil {
			checkText(t, o, "")
			continue
		}
		good++
		checkRead(t, bytesOf(t, o), o, nil)
		checkParse(t, strings.Fields(op.Text(o)), o, nil)
	}
	if good < 10000 || good > 45000 {
		t.Error(good)
	}
}

// modelValid is what the chapter's words say of Valid, one by one.
func modelValid(o api.Op) error {
	if o.ID < 1 || o.ID > mostID {
		return api.ErrRange
	}
	if o.Kind < 1 || o.Kind > 16 {
		return api.ErrKind
	}
	for place, n := range numbersOf(o)[2:] {
		if n < 0 || n > greatest(place) {
			return api.ErrRange
		}
		if n != 0 && !kinds()[o.Kind-1].uses(place) {
			return api.ErrRange
		}
	}
	return nil
}
