package page_test

import (
	"fmt"
	"maps"
	"math/rand"
	"slices"
	"testing"

	"pledge/api"
	"pledge/disk"
	"pledge/page"
)

// differs tells where a store's pages are not those that are wanted; empty: nowhere.
func differs(s *page.Store, want map[int]string) string {
	if got, list := s.Pages(), slices.Sorted(maps.Keys(want)); !slices.Equal(got, list) {
		return fmt.Sprintf("Pages() = %v, want %v", got, list)
	}
	for p := -1; p <= api.MaxPages; p++ {
		b, ok := s.Read(p)
		is, there := want[p]
		if ok != there || string(b) != is {
			return fmt.Sprintf("Read(%d) = %q, %v, want %q, %v", p, b, ok, is, there)
		}
	}
	return ""
}

// model is a store told another way: as two whole sets of pages.
type model struct {
	was, now map[int]string
	touched  map[int]bool
	epoch    int64
}

func newModel() *model {
	return &model{was: map[int]string{}, now: map[int]string{}, touched: map[int]bool{}}
}

func (m *model) write(p int, b []byte) {
	m.now[p] = string(b)
	m.touched[p] = true
}

func (m *model) drop(p int) {
	if _, ok := m.now[p]; ok {
		delete(m.now, p)
		m.touched[p] = true
	}
}

func (m *model) abort() {
	m.now = maps.Clone(m.was)
	clear(m.touched)
}

func (m *model) commit() {
	if len(m.touched) > 0 {
		m.was = maps.Clone(m.now)
		clear(m.touched)
		m.epoch++
	}
}

// any changes the same in both, as r says.
func (m *model) any(t *testing.T, r *rand.Rand, s *page.Store, pages int) {
	t.Helper()
	for range r.Intn(6) {
		p := r.Intn(pages)
		if far := r.Intn(4); far > 0 {
			p = (p * 29 * far) % api.MaxPages
		}
		switch r.Intn(4) {
		case 0:
			drops(t, s, p)
			m.drop(p)
		default:
			b := make([]byte, 1+r.Intn(maxBytes))
			r.Read(b)
			writes(t, s, p, b)
			m.write(p, b)
		}
	}
}

// agrees holds all that a store tells against the model.
func (m *model) agrees(t *testing.T, s *page.Store) {
	t.Helper()
	has(t, s, m.now)
	changed(t, s, len(m.touched))
	epoch(t, s, m.epoch)
}

// P7.1, P7.2: any calls in any order, without falls.
func TestAsTheModel(t *testing.T) {
	for seed := range int64(30) {
		r := rand.New(rand.NewSource(seed))
		d := made(t, 400)
		s, m := opens(t, d), newModel()
		for range 80 {
			switch r.Intn(6) {
			case 0:
				s.Abort()
				m.abort()
			case 1, 2:
				commits(t, s)
				m.commit()
			case 3:
				s = opens(t, d)
				m.abort()
			default:
				m.any(t, r, s, 25)
			}
			m.agrees(t, s)
		}
	}
}

// P7.2: fall upon fall, at any Write or Flush, with any picks; what is there behind each is one of two.
func TestFallsAsTheModel(t *testing.T) {
	kept, lost := 0, 0
	for seed := range int64(150) {
		r := rand.New(rand.NewSource(seed))
		d := made(t, 230)
		s, m := opens(t, d), newModel()
		for range 40 {
			m.any(t, r, s, 12)
			d.Arm(r.Intn(16))
			calls := d.Calls()
			err := s.Commit()
			d.Arm(0)
			if err != nil {
				if err != api.ErrCrash || !d.Down() {
					t.Fatalf("seed %d: Commit = %v, down %v", seed, err, d.Down())
				}
				s = rises(t, r, d)
				if s.Epoch() > m.epoch {
					kept++
					m.commit()
				} else {
					lost++
					m.abort()
				}
			} else if len(m.touched) > 0 && d.Pending() != 0 || len(m.touched) == 0 && d.Calls() != calls {
				t.Fatalf("seed %d: %d pending, %d calls", seed, d.Pending(), d.Calls()-calls)
			} else {
				m.commit()
			}
			m.agrees(t, s)
		}
	}
	if kept < 20 || lost < 500 {
		t.Errorf("%d Commits that fell are there, %d are not", kept, lost)
	}
}

// rises brings a disk up, as r says, and opens it.
func rises(t *testing.T, r *rand.Rand, d *disk.Disk) *page.Store {
	t.Helper()
	opensNot(t, d, api.ErrCrash)
	d.Crash(picks(r, d.Pending())...)
	return opens(t, d)
}

func picks(r *rand.Rand, n int) []int {
	var list []int
	for range n {
		list = append(list, r.Intn(2000)-1000)
	}
	return list
}
