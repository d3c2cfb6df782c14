package keep_test

import (
	"maps"
	"math/rand"
	"testing"

	"pledge/api"
	"pledge/disk"
	"pledge/keep"
)

// picks is how the pending sectors of a fallen disk are left: dropped, kept, torn anywhere.
func picks(r *rand.Rand, n int) []int {
	list := make([]int, n)
	for i := range list {
		list[i] = r.Intn(3 * (api.SectorSize + 1))
		if r.Intn(2) == 0 {
			list[i] %= 2
		}
	}
	return list
}

func oneOf(t *testing.T, k *keep.Keep, was, then pairs) {
	t.Helper()
	if said := differs(k, was); said != "" && differs(k, then) != "" {
		t.Fatal("neither ahead of the Commit nor behind it: ", said)
	}
}

// falls lets the power go at the at-th Write or Flush of a Commit; false: it has fewer.
func falls(t *testing.T, d *disk.Disk, k *keep.Keep, at int) bool {
	t.Helper()
	d.Arm(at)
	err := k.Commit()
	if d.Down() != (err == api.ErrCrash) || err != nil && err != api.ErrCrash {
		t.Fatalf("armed at %d: Commit = %v, down %v", at, err, d.Down())
	}
	d.Arm(0)
	return d.Down()
}

// P8.2: a Commit falls at each of its calls; what is there is all of it or nothing.
func TestEachFall(t *testing.T) {
	r := rand.New(rand.NewSource(82))
	d := made(t, 400)
	m := newModel()
	for range 5 {
		k := opens(t, d)
		seed := r.Int63()
		change := func(k *keep.Keep) {
			r := rand.New(rand.NewSource(seed))
			for range 12 {
				m.changes(t, r, k, 12)
			}
		}
		for at := 1; ; at++ {
			c := d.Clone()
			k := opens(t, c)
			m.abort()
			change(k)
			if !falls(t, c, k, at) {
				break
			}
			for pick := range 30 {
				risen := c.Clone()
				list := picks(r, c.Pending())
				for i := range list {
					if pick < 2 {
						list[i] = pick
					}
				}
				risen.Crash(list...)
				oneOf(t, opens(t, risen), m.was, m.now)
			}
		}
		m.abort()
		change(k)
		commits(t, k)
		m.commit()
		has(t, opens(t, d), m.was)
	}
}

// P8.2: fall upon fall, and on from what is there.
func TestFallsAgainAndAgain(t *testing.T) {
	for seed := range int64(12) {
		r := rand.New(rand.NewSource(seed))
		d := made(t, 500)
		m := newModel()
		for range 100 {
			k := opens(t, d)
			has(t, k, m.was)
			m.abort()
			for range r.Intn(8) {
				m.changes(t, r, k, 20)
			}
			then := maps.Clone(m.now)
			if !falls(t, d, k, 1+r.Intn(25)) {
				m.commit()
				continue
			}
			d.Crash(picks(r, d.Pending())...)
			k = opens(t, d)
			oneOf(t, k, m.was, then)
			if differs(k, then) == "" {
				m.commit()
			}
		}
	}
}
