package day_test

import (
	"math"
	"math/big"
	"testing"
	"time"

	"pledge/api"
	"pledge/day"
)

const (
	most  = math.MaxInt
	least = math.MinInt
)

// checkOf asks for the number of a day; an error is the sentinel itself.
func checkOf(t *testing.T, d day.Date, want int, wantErr error) {
	t.Helper()
	if n, err := day.Of(d); n != want || err != wantErr {
		t.Errorf("Of(%v) = %d, %v; want %d, %v", d, n, err, want, wantErr)
	}
}

// library is the library's day so many behind January 1, 2000.
func library(n int) time.Time { return time.Date(2000, 1, 1+n, 0, 0, 0, 0, time.UTC) }

// exactOf is what Of has to answer, for fields that the library counts on from without loss.
func exactOf(d day.Date) (int, error) {
	x := time.Date(d.Year, time.Month(d.Month), d.Day, 0, 0, 0, 0, time.UTC)
	if x.Year() != d.Year || int(x.Month()) != d.Month || x.Day() != d.Day {
		return 0, api.ErrRange
	}
	n := (x.Unix() - library(0).Unix()) / (24 * 60 * 60)
	if n < 0 || n > api.MaxDay {
		return 0, api.ErrRange
	}
	return int(n), nil
}

// P4.1
func TestEveryDay(t *testing.T) {
	for n := range api.MaxDay + 1 {
		x := library(n)
		want := day.Date{Year: x.Year(), Month: int(x.Month()), Day: x.Day()}
		d, err := day.At(n)
		if d != want || err != nil {
			t.Fatalf("At(%d) = %v, %v; want %v", n, d, err, want)
		}
		checkOf(t, want, n, nil)
		if w := day.Weekday(n); w != int(x.Weekday()) {
			t.Fatalf("Weekday(%d) = %d, want %d", n, w, x.Weekday())
		}
	}
}

// P4.1: what is no day of the calendar too, and what is ahead of day 0 or behind MaxDay.
func TestOfEveryDateAround(t *testing.T) {
	for year := 1890; year <= 2410; year++ {
		for month := -1; month <= 14; month++ {
			for d := -1; d <= 33; d++ {
				date := day.Date{Year: year, Month: month, Day: d}
				want, wantErr := exactOf(date)
				checkOf(t, date, want, wantErr)
			}
		}
	}
}

// P4.1
func TestOf(t *testing.T) {
	for _, x := range []struct {
		d    day.Date
		want int
		err  error
	}{
		{day.Date{2000, 1, 1}, 0, nil},
		{day.Date{2000, 1, 31}, 30, nil},
		{day.Date{2000, 2, 29}, 59, nil},
		{day.Date{2000, 3, 1}, 60, nil},
		{day.Date{2000, 12, 31}, 365, nil},
		{day.Date{2001, 1, 1}, 366, nil},
		{day.Date{2001, 2, 28}, 424, nil},
		{day.Date{2001, 3, 1}, 425, nil},
		{day.Date{2100, 2, 28}, 36583, nil},
		{day.Date{2100, 3, 1}, 36584, nil},
		{day.Date{2109, 7, 8}, api.MaxDay, nil},
		{day.Date{2109, 7, 9}, 0, api.ErrRange},
		{day.Date{2109, 12, 31}, 0, api.ErrRange},
		{day.Date{2110, 1, 1}, 0, api.ErrRange},
		{day.Date{1999, 12, 31}, 0, api.ErrRange},
		{day.Date{1996, 2, 29}, 0, api.ErrRange},
		{day.Date{2001, 2, 29}, 0, api.ErrRange},
		{day.Date{2100, 2, 29}, 0, api.ErrRange},
		{day.Date{2000, 2, 30}, 0, api.ErrRange},
		{day.Date{2000, 4, 31}, 0, api.ErrRange},
		{day.Date{2000, 6, 31}, 0, api.ErrRange},
		{day.Date{2000, 9, 31}, 0, api.ErrRange},
		{day.Date{2000, 11, 31}, 0, api.ErrRange},
		{day.Date{2000, 12, 32}, 0, api.ErrRange},
		{day.Date{2000, 0, 1}, 0, api.ErrRange},
		{day.Date{2000, 13, 1}, 0, api.ErrRange},
		{day.Date{2000, 1, 0}, 0, api.ErrRange},
		{day.Date{2000, 3, -1}, 0, api.ErrRange},
		{day.Date{2001, -1, 1}, 0, api.ErrRange},
		{day.Date{}, 0, api.ErrRange},
		{day.Date{-2000, 1, 1}, 0, api.ErrRange},
		{day.Date{100, 1, 1}, 0, api.ErrRange},
	} {
		checkOf(t, x.d, x.want, x.err)
	}
}

// P4.1, P0.1: numbers that go round, or that would be counted up to for ever, are no days.
func TestOfFarOut(t *testing.T) {
	far := []int{least, least + 1, -1 << 62, -1 << 32, 1 << 16, 1 << 32, 1 << 61, 1 << 62, 1 << 63 / 7, most - 1, most}
	for _, f := range far {
		for _, near := range []int{0, 1, -1, 2000, -2000} {
			n := f + near // some go round, and are as far out
			checkOf(t, day.Date{n, 1, 1}, 0, api.ErrRange)
			checkOf(t, day.Date{2000, n, 1}, 0, api.ErrRange)
			checkOf(t, day.Date{2000, 1, n}, 0, api.ErrRange)
			checkOf(t, day.Date{2050, 12, n}, 0, api.ErrRange)
			checkOf(t, day.Date{n, n, n}, 0, api.ErrRange)
		}
	}
}

// P4.1
func TestAt(t *testing.T) {
	for _, x := range []struct {
		n    int
		want day.Date
		err  error
	}{
		{0, day.Date{2000, 1, 1}, nil},
		{30, day.Date{2000, 1, 31}, nil},
		{31, day.Date{2000, 2, 1}, nil},
		{59, day.Date{2000, 2, 29}, nil},
		{60, day.Date{2000, 3, 1}, nil},
		{365, day.Date{2000, 12, 31}, nil},
		{366, day.Date{2001, 1, 1}, nil},
		{425, day.Date{2001, 3, 1}, nil},
		{36584, day.Date{2100, 3, 1}, nil},
		{api.MaxDay, day.Date{2109, 7, 8}, nil},
		{api.MaxDay + 1, day.Date{}, api.ErrRange},
		{-1, day.Date{}, api.ErrRange},
		{-api.MaxDay, day.Date{}, api.ErrRange},
		{1 << 32, day.Date{}, api.ErrRange},
		{most, day.Date{}, api.ErrRange},
		{least, day.Date{}, api.ErrRange},
	} {
		if d, err := day.At(x.n); d != x.want || err != x.err {
			t.Errorf("At(%d) = %v, %v; want %v, %v", x.n, d, err, x.want, x.err)
		}
	}
}

// P4.1: of any year.
func TestLeap(t *testing.T) {
	for _, x := range []struct {
		year int
		want bool
	}{
		{2000, true}, {2001, false}, {2002, false}, {2003, false}, {2004, true},
		{1900, false}, {2100, false}, {2200, false}, {2300, false}, {2400, true},
		{0, true}, {4, true}, {100, false}, {400, true}, {1, false},
		{-1, false}, {-2, false}, {-4, true}, {-96, true}, {-100, false}, {-200, false}, {-400, true}, {-2000, true},
		{least, true}, {least + 1, false}, {least + 8, false}, {least + 208, true}, // 8 and 208 behind it: of 100, and of 400
		{most, false}, {most - 3, true}, {most - 7, false}, {most - 207, true},
	} {
		if got := day.Leap(x.year); got != x.want {
			t.Errorf("Leap(%d) = %v, want %v", x.year, got, x.want)
		}
	}
}

// P4.1
func TestLeapAsTheLibrary(t *testing.T) {
	for year := -2500; year <= 2500; year++ {
		want := time.Date(year, 12, 31, 0, 0, 0, 0, time.UTC).YearDay() == 366
		if got := day.Leap(year); got != want {
			t.Errorf("Leap(%d) = %v, want %v", year, got, want)
		}
	}
}

// P4.1: of any n, below 0 too, and without bounds.
func TestWeekday(t *testing.T) {
	for _, x := range []struct{ n, want int }{
		{0, 6}, {1, 0}, {2, 1}, {6, 5}, {7, 6}, {8, 0}, {59, 2}, {api.MaxDay, 1}, {api.MaxDay + 1, 2},
		{-1, 5}, {-5, 1}, {-6, 0}, {-7, 6}, {-8, 5}, {-13, 0}, {-14, 6},
	} {
		if w := day.Weekday(x.n); w != x.want {
			t.Errorf("Weekday(%d) = %d, want %d", x.n, w, x.want)
		}
	}
	for _, middle := range []int{least + 50, -1 << 62, -1 << 32, -1 << 31, 0, 1 << 31, 1 << 32, 1 << 62, most - 50} {
		for n := middle - 50; n < middle+50; n++ {
			checkWeekday(t, n)
		}
	}
	checkWeekday(t, most)
}

func checkWeekday(t *testing.T, n int) {
	t.Helper()
	x := new(big.Int).Add(big.NewInt(int64(n)), big.NewInt(6))
	want := int(x.Mod(x, big.NewInt(7)).Int64()) // not below 0
	if w := day.Weekday(n); w != want {
		t.Errorf("Weekday(%d) = %d, want %d", n, w, want)
	}
}

// P4.2
func TestBucket(t *testing.T) {
	for _, x := range []struct{ first, last, want int }{
		{-3650, 29, 0}, {30, 89, 1}, {90, 364, 2}, {365, 1094, 3}, {1095, 3649, 4}, {3650, api.MaxDay + 1, 5},
		{least, least + 9, 0}, {-1<<32 - 9, -1<<32 + 9, 0}, {1<<32 - 9, 1<<32 + 9, 5}, {most - 9, most - 1, 5}, {most, most, 5},
	} {
		for i := range x.last - x.first + 1 {
			if b := day.Bucket(x.first + i); b != x.want {
				t.Errorf("Bucket(%d) = %d, want %d", x.first+i, b, x.want)
			}
		}
	}
}

// P4.2: end 0 is asked ahead of where today is.
func TestLeft(t *testing.T) {
	for _, x := range []struct {
		end, today int
		want       int
		ok         bool
	}{
		{10, 9, 1, true},
		{10, 0, 10, true},
		{10, 10, 0, false},
		{10, 11, 0, false},
		{1, 0, 1, true},
		{api.MaxDay, 0, api.MaxDay, true},
		{api.MaxDay, api.MaxDay - 1, 1, true},
		{api.MaxDay, api.MaxDay, 0, false},
		{0, 0, 0, true},
		{0, 500, 0, true},
		{0, -500, 0, true},
		{0, most, 0, true},
		{0, least, 0, true},
		{1, -1, 2, true},
		{-1, -3, 2, true},
		{-1, -1, 0, false},
		{-1, 0, 0, false},
		{-3, 5, 0, false},
		{most, 0, most, true},
		{most, most - 1, 1, true},
		{most, most, 0, false},
		{most, 1, most - 1, true},
		{1, -most + 1, most, true},
		{-1, least, most, true},
		{least, most, 0, false}, // the difference goes round to 1
		{least, 1, 0, false},
		{least, least, 0, false},
		{least + 1, least, 1, true},
	} {
		if n, ok := day.Left(x.end, x.today); n != x.want || ok != x.ok {
			t.Errorf("Left(%d, %d) = %d, %v; want %d, %v", x.end, x.today, n, ok, x.want, x.ok)
		}
	}
}

// P4.2, P0.6: the end is still to come also where more days are left than an int has: then the greatest stands for them.
func TestLeftDoesNotGoRound(t *testing.T) {
	for _, x := range [][2]int{{most, -1}, {1, least}, {2, -most}, {most, least}, {1 << 62, -1 << 62}, {most, -most}} {
		if n, ok := day.Left(x[0], x[1]); n != most || !ok {
			t.Errorf("Left(%d, %d) = %d, %v; want %d, true", x[0], x[1], n, ok, most)
		}
	}
}

// P4's 'Ways': a Date is a value: those that are the same are one key.
func TestDateIsAKey(t *testing.T) {
	numbers := map[day.Date]int{}
	for range 2 {
		for n := range 1000 {
			d, err := day.At(n)
			if err != nil {
				t.Fatal(n, err)
			}
			numbers[d] = n
		}
	}
	if n, ok := numbers[day.Date{Year: 2000, Month: 2, Day: 29}]; len(numbers) != 1000 || n != 59 || !ok {
		t.Error(len(numbers), n, ok)
	}
}
