package book_test

import "testing"

// P26.2: what a member has, as its holdings, the days and the rules go.
func TestHave(t *testing.T) {
	d := opened(t)
	d.do("deposit 2 1 100", "deposit 2 2 100", "deposit 2 3 1000", "deposit 2 4 50")
	for _, x := range []struct {
		text string
		want int64
	}{
		{"need 2 7", 100 + 150 + 1000 + 75},
		{"cut 2 3 1000", 100 + 150 + 900 + 75}, // 400 days are left
		{"cut 2 2 5000", 100 + 150 + 900 + 75},
		{"cut 3 5 2000", 100 + 150 + 900 + 60},
		{"fxcut 500", 100 + 142 + 900 + 56},
		{"price 3 9000", 100 + 142 + 810 + 56},
		{"rate 2 1000000", 100 + 95 + 810 + 37},
		{"cap 3 6 30", 100 + 95 + 810 + 30},
		{"cap 3 5 800", 100 + 95 + 800 + 30},
		{"cap 2 2 90", 100 + 90 + 800 + 30},
		{"cap 2 1 700", 100 + 90 + 700 + 30},
		{"cap 1 1 150", 150 + 700 + 30},
		{"cap 1 2 650", 150 + 650 + 30},
		{"cap 1 3 1", 150 + 650 + 1},
		{"tick 35", 150 + 650 + 1},
		{"tick 1", 150 + 450 + 1}, // 364 are left
		{"cap 1 3 0", 150 + 450 + 30},
		{"elig 3 36 0", 150 + 450},
		{"elig 3 37 1", 150 + 450},
		{"tick 1", 150 + 450 + 30},
		{"tick 362", 150 + 650 + 30}, // one is
		{"tick 1", 150 + 30}, // it has ended
		{"elig 1 400 0", 30},
		{"fxcut 9000", 0}, // with the other cut that is more than all
		{"cap 1 6 5", 0},
	} {
		d.do(x.text)
		if n, ok := d.Have(2); n != x.want || !ok {
			t.Errorf("behind %s: Have = %d, %v, want %d", x.text, n, ok, x.want)
		}
		if s, ok := d.State(2); s.Need != 7 || s.Have != x.want || !ok {
			t.Errorf("behind %s: State = %+v, %v", x.text, s, ok)
		}
	}
	d.has(1, 0)
	d.has(4, 0)
}

// P26.2: what has no price, or no rate, is worth nothing yet.
func TestHaveWithoutPrices(t *testing.T) {
	d := newDesk(t)
	d.do("join 1 0 0", "asset 1 0 2 1 0", "asset 2 0 1 3 0", "asset 3 0 2 3 0", "elig 1 0 1", "elig 2 0 1",
		"deposit 1 1 1000000", "deposit 1 2 500", "deposit 1 3 70")
	d.has(1, 0)
	d.do("price 1 1", "price 3 10000")
	d.has(1, 100)
	d.do("rate 3 2000000")
	d.has(1, 100+1000+140)
}
