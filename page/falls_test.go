package page_test

import (
	"fmt"
	"maps"
	"math/rand"
	"testing"

	"pledge/api"
	"pledge/disk"
	"pledge/page"
)

// step is what is changed ahead of the n-th Commit, and what is there behind it.
func step(t *testing.T, s *page.Store, n int, was map[int]string) map[int]string {
	t.Helper()
	then := maps.Clone(was)
	for k := range 3 {
		p := (n*k + 7*k) % 20 * 64 % 1999
		then[p] = fmt.Sprint(n, "-", k)
		writes(t, s, p, []byte(then[p]))
	}
	if n%3 == 2 {
		drops(t, s, 448)
		delete(then, 448)
	}
	return then
}

// fallen is a disk on which a Commit fell at its at-th Write or Flush, and not yet up; false: it did not fall.
func fallen(t *testing.T, d *disk.Disk, at, n int, was map[int]string) bool {
	t.Helper()
	s := opens(t, d)
	step(t, s, n, was)
	d.Arm(at)
	err := s.Commit()
	if d.Down() != (err == api.ErrCrash) || err != nil && err != api.ErrCrash {
		t.Fatalf("armed at %d: Commit = %v, down %v", at, err, d.Down())
	}
	d.Arm(0)
	return d.Down()
}

// P7.2: a Commit falls at each of its calls, and each of the sectors that are pending is dropped, whole, or torn.
func TestEachFall(t *testing.T) {
	d := made(t, 100)
	s := opens(t, d)
	was := map[int]string{}
	for n := range 4 {
		then := step(t, opens(t, d), n, was)
		for at := 1; ; at++ {
			c := d.Clone()
			if !fallen(t, c, at, n, was) {
				has(t, opens(t, c), then)
				if at < 5 {
					t.Fatal("a Commit of few calls:", at)
				}
				break
			}
			eachPick(t, c, was, then)
		}
		step(t, s, n, was)
		commits(t, s)
		was = then
		has(t, opens(t, d), was)
	}
}

// eachPick lets a fallen disk rise in each way in which all its pending sectors are left alike, and in some others.
func eachPick(t *testing.T, d *disk.Disk, was, then map[int]string) {
	t.Helper()
	r := rand.New(rand.NewSource(72))
	for pick := range 3 * (api.SectorSize + 1) {
		alike := make([]int, d.Pending())
		for i := range alike {
			alike[i] = pick
		}
		for _, list := range [][]int{alike, picks(r, d.Pending())} {
			c := d.Clone()
			c.Crash(list...)
			oneOf(t, opens(t, c), was, then)
		}
	}
}

func oneOf(t *testing.T, s *page.Store, was, then map[int]string) {
	t.Helper()
	if said := differs(s, was); said != "" && differs(s, then) != "" {
		t.Fatal("neither ahead of the Commit nor behind it: ", said)
	}
}

// P7.2: nothing of a Commit is there till its root was written, and all of it once that is flushed.
func TestWhenACommitIsThere(t *testing.T) {
	d := made(t, 100)
	s := opens(t, d)
	was := step(t, s, 0, map[int]string{})
	commits(t, s)
	then := step(t, s, 1, was)
	calls := d.Calls()
	c := d.Clone()
	commits(t, s)
	calls = d.Calls() - calls
	for at := 1; at <= calls; at++ {
		for _, pick := range []int{0, 1} {
			fell := c.Clone()
			if !fallen(t, fell, at, 1, was) {
				t.Fatal(at, calls)
			}
			alike := make([]int, fell.Pending())
			for i := range alike {
				alike[i] = pick
			}
			fell.Crash(alike...)
			if pick == 1 && at == calls {
				has(t, opens(t, fell), then)
			} else {
				has(t, opens(t, fell), was)
			}
		}
	}
}

// P7.2: Commits of one number fall one behind the other, over Epochs whose lowest byte goes round.
func TestFallsAgainAndAgain(t *testing.T) {
	for _, start := range []int{0, 1, 253, 254, 255} {
		d := made(t, 100)
		s := opens(t, d)
		was := map[int]string{}
		for n := range start {
			was = step(t, s, n, was)
			commits(t, s)
		}
		r := rand.New(rand.NewSource(int64(start)))
		for n := range 300 {
			s = opens(t, d)
			epoch := s.Epoch()
			then := step(t, s, n, was)
			d.Arm(r.Intn(9) + 1)
			err := s.Commit()
			d.Arm(0)
			if err == nil {
				was = then
				continue
			}
			d.Crash(picks(r, d.Pending())...)
			s = opens(t, d)
			if s.Epoch() > epoch {
				was = then
			}
			has(t, s, was)
		}
	}
}

// P7.2: where the power goes in a Commit and not all of what it wrote is on the disk, the next one goes on as if it had not been.
func TestOnBehindAFall(t *testing.T) {
	for at := 1; at < 12; at++ {
		for _, pick := range []int{0, 1, 2 + 3*3, 2 + 3*40, 2 + 3*122, 2 + 3*123, 2 + 3*127} {
			d := made(t, 100)
			s := opens(t, d)
			was := step(t, s, 0, map[int]string{})
			commits(t, s)
			then := step(t, s, 1, was)
			if !fallen(t, d, at, 1, was) {
				continue
			}
			d.Crash(pick, pick, pick, pick, pick, pick)
			s = opens(t, d)
			oneOf(t, s, was, then)
			if s.Epoch() == 2 {
				was = then
			}
			for n := range 4 {
				was = step(t, s, 5+n, was)
				commits(t, s)
				has(t, s, was)
				has(t, opens(t, d), was)
			}
		}
	}
}
