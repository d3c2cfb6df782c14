package keep_test

import (
	"fmt"
	"maps"
	"math/rand"
	"slices"
	"testing"

	"pledge/api"
	"pledge/disk"
	"pledge/keep"
)

// differs tells where a keep's pairs are not those that are wanted; empty: nowhere.
func differs(k *keep.Keep, want pairs) string {
	keys := slices.Sorted(maps.Keys(want))
	list := k.Scan(nil, nil)
	if len(list) != len(keys) || k.Len() != len(keys) {
		return fmt.Sprintf("%d of Scan, Len() = %d, want %d", len(list), k.Len(), len(keys))
	}
	for i, key := range keys {
		if string(list[i].Key) != key || string(list[i].Value) != want[key] {
			return fmt.Sprintf("Scan has %q, %q at %d, want %q, %q", list[i].Key, list[i].Value, i, key, want[key])
		}
		if v, ok := k.Get([]byte(key)); !ok || string(v) != want[key] {
			return fmt.Sprintf("Get(%q) = %q, %v, want %q", key, v, ok, want[key])
		}
	}
	return ""
}

// model is a keep told another way: as two whole maps.
type model struct{ was, now pairs }

func newModel() *model { return &model{was: pairs{}, now: pairs{}} }

func (m *model) commit() { m.was = maps.Clone(m.now) }
func (m *model) abort()  { m.now = maps.Clone(m.was) }

// changes puts or deletes the same in both, as r says: keys of a few, so that they meet.
func (m *model) changes(t *testing.T, r *rand.Rand, k *keep.Keep, keys int) {
	t.Helper()
	key := fmt.Sprint("k", r.Intn(keys))
	if r.Intn(3) == 0 {
		_, there := m.now[key]
		dels(t, k, key, there)
		delete(m.now, key)
		hasNot(t, k, key)
		return
	}
	v := noise(r, r.Intn(api.MaxValue+1))
	puts(t, k, key, v)
	m.now[key] = v
}

// scans holds a Scan between any two keys against the model.
func (m *model) scans(t *testing.T, r *rand.Rand, k *keep.Keep, keys int) {
	t.Helper()
	from, to := fmt.Sprint("k", r.Intn(keys)), fmt.Sprint("k", r.Intn(keys))
	want := ""
	for _, key := range slices.Sorted(maps.Keys(m.now)) {
		if key >= from && key < to {
			if want != "" {
				want += " "
			}
			want += key
		}
	}
	scans(t, k, from, to, want)
}

// P8.1, P8.2: any calls in any order, without falls.
func TestAsTheModel(t *testing.T) {
	for seed := range int64(24) {
		r := rand.New(rand.NewSource(seed))
		keys := []int{3, 30, 300}[seed%3]
		d := made(t, 2000)
		k, m := opens(t, d), newModel()
		for range 150 {
			switch r.Intn(8) {
			case 0:
				k.Abort()
				m.abort()
			case 1:
				commits(t, k)
				m.commit()
			case 2:
				k = opens(t, d)
				m.abort()
			case 3:
				m.scans(t, r, k, keys)
			default:
				for range 1 + r.Intn(keys) {
					m.changes(t, r, k, keys)
				}
			}
			has(t, k, m.now)
		}
	}
}

// P8.1: near to where each page is taken, keys come and go, and those that stay are found.
func TestCrowded(t *testing.T) {
	r := rand.New(rand.NewSource(8))
	k, m := opens(t, made(t, 16)), newModel()
	for round := range 40 {
		for len(m.now) < api.MaxPages-r.Intn(3) {
			key := fmt.Sprint("k", r.Intn(100000))
			puts(t, k, key, key)
			m.now[key] = key
		}
		if len(m.now) == api.MaxPages {
			putsNot(t, k, "new", "", api.ErrFull)
		}
		if round%10 == 0 {
			has(t, k, m.now)
		}
		keys := slices.Sorted(maps.Keys(m.now))
		r.Shuffle(len(keys), func(i, j int) { keys[i], keys[j] = keys[j], keys[i] })
		for _, key := range keys[:r.Intn(200)] {
			dels(t, k, key, true)
			delete(m.now, key)
		}
	}
	has(t, k, m.now)
}

// P8.1: the one page that is left is as good as another one for any key, the one behind it or ahead of it on the pages too.
func TestTheLastPage(t *testing.T) {
	s := store(t, made(t, 16))
	k, m := on(t, s), newModel()
	for i := range api.MaxPages {
		puts(t, k, fmt.Sprint("k", i), "")
		m.now[fmt.Sprint("k", i)] = ""
	}
	for i := range 3 {
		gone := fmt.Sprint("k", i*500)
		was := s.Pages()
		dels(t, k, gone, true)
		delete(m.now, gone)
		left := 0
		for _, p := range was {
			if _, taken := s.Read(p); !taken {
				left = p
			}
		}
		key := keyFor(t, (left+i)%api.MaxPages)
		puts(t, k, key, "last")
		m.now[key] = "last"
		putsNot(t, k, gone, "", api.ErrFull)
		has(t, k, m.now)
	}
}

// keyFor is a key that lies on page p, while it is the only one.
func keyFor(t *testing.T, p int) string {
	t.Helper()
	s := store(t, made(t, 16))
	k := on(t, s)
	for i := range 100000 {
		key := fmt.Sprint("last", i)
		puts(t, k, key, "")
		if _, ok := s.Read(p); ok {
			return key
		}
		k.Abort()
	}
	t.Fatal("no key lies on page", p)
	return ""
}

// P0.5: which answers come is the same on each run: of two keeps to which the same is done, on the disk too.
func TestAlike(t *testing.T) {
	var disks [2]*disk.Disk
	for i := range disks {
		r := rand.New(rand.NewSource(5))
		disks[i] = made(t, 600)
		k, m := opens(t, disks[i]), newModel()
		for range 20 {
			for range 10 {
				m.changes(t, r, k, 40)
			}
			commits(t, k)
		}
	}
	for sector := range 600 {
		a, _ := disks[0].Read(sector)
		b, _ := disks[1].Read(sector)
		if !slices.Equal(a, b) {
			t.Fatal(sector, a, b)
		}
	}
}
