package page_test

import (
	"math/rand"
	"testing"

	"pledge/api"
	"pledge/disk"
	"pledge/page"
	"pledge/root"
)

// P7.2, and the chapter's example.
func TestOpenOfANewDisk(t *testing.T) {
	for _, sectors := range []int{16, 17, 100, api.MaxSectors} {
		d := made(t, sectors)
		s := opens(t, d)
		has(t, s, nil)
		changed(t, s, 0)
		epoch(t, s, 0)
		if d.Calls() != 0 {
			t.Error("Open wrote")
		}
	}
}

// P7.2: disk's errors are named ahead of ErrRange.
func TestOpenRefused(t *testing.T) {
	for sectors := 1; sectors < 16; sectors++ {
		d := made(t, sectors)
		opensNot(t, d, api.ErrRange)
		d.Arm(1)
		d.Flush()
		opensNot(t, d, api.ErrCrash)
		d.Crash()
		opensNot(t, d, api.ErrRange)
	}
	d := made(t, 16)
	s := opens(t, d)
	writes(t, s, 5, []byte("a"))
	commits(t, s)
	d.Arm(1)
	d.Flush()
	opensNot(t, d, api.ErrCrash)
	d.Crash()
	has(t, opens(t, d), map[int]string{5: "a"})
}

// P7.2: Open writes nothing, so that no power can go in it.
func TestOpenWritesNothing(t *testing.T) {
	d := made(t, 100)
	s := opens(t, d)
	for n := range 6 {
		want := filled(t, s, 5+n, 100, n)
		commits(t, s)
		before, calls := sectorsOf(t, d), d.Calls()
		d.Arm(1)
		for range 3 {
			has(t, opens(t, d), want)
		}
		if d.Down() || d.Calls() != calls || d.Pending() != 0 || string(sectorsOf(t, d)) != string(before) {
			t.Error("Open wrote")
		}
		d.Arm(0)
	}
}

// P7.2: a store is of its own disk, and a clone's is of the clone.
func TestOpenOfAClone(t *testing.T) {
	d := made(t, 100)
	s := opens(t, d)
	writes(t, s, 1, []byte("a"))
	commits(t, s)
	c := d.Clone()
	other := opens(t, c)
	writes(t, other, 1, []byte("b"))
	commits(t, other)
	writes(t, s, 2, []byte("c"))
	commits(t, s)
	has(t, opens(t, d), map[int]string{1: "a", 2: "c"})
	has(t, opens(t, c), map[int]string{1: "b"})
}

// P0.1: whatever a disk has, Open answers; and what it opens is a store like another.
func TestOpenOfAnyDisk(t *testing.T) {
	refused, opened := 0, 0
	for seed := range int64(2000) {
		r := rand.New(rand.NewSource(seed))
		d := made(t, 16+r.Intn(300))
		strew(t, r, d)
		s, err := page.Open(d)
		if (s == nil) != (err != nil) {
			t.Fatalf("seed %d: Open = %v, %v", seed, s, err)
		}
		if err != nil {
			if err != api.ErrShape && err != api.ErrFull {
				t.Fatalf("seed %d: Open = %v", seed, err)
			}
			refused++
			continue
		}
		opened++
		for _, p := range s.Pages() {
			if b, ok := s.Read(p); !ok || len(b) < 1 || len(b) > maxBytes {
				t.Fatalf("seed %d: Read(%d) = %v, %v", seed, p, b, ok)
			}
			drops(t, s, p)
		}
		writes(t, s, 77, []byte("a"))
		commits(t, s)
		has(t, opens(t, d), map[int]string{77: "a"})
	}
	if refused < 500 || opened < 100 {
		t.Errorf("%d disks were refused, %d opened", refused, opened)
	}
}

// strew puts pages on a disk, and behind that what no Commit puts there, as r says.
func strew(t *testing.T, r *rand.Rand, d *disk.Disk) {
	t.Helper()
	s := opens(t, d)
	filled(t, s, 1+r.Intn(5), 1, 0)
	commits(t, s)
	for range r.Intn(8) {
		i := 2 + r.Intn(8)
		b, err := d.Read(i)
		if err != nil {
			t.Fatal(err)
		}
		b[r.Intn(len(b))%(1+r.Intn(len(b)))] = byte(r.Intn(256)) >> r.Intn(8)
		if err := d.Write(i, b); err != nil {
			t.Fatal(err)
		}
	}
	if r.Intn(2) > 0 {
		return
	}
	to := root.Root{Epoch: 1 + r.Int63n(9), List: make([]int, 30+r.Intn(4))}
	for range r.Intn(5) {
		to.List[r.Intn(len(to.List))] = r.Intn(400) >> r.Intn(9)
	}
	if err := root.Save(d, to); err != nil {
		t.Fatal(err)
	}
}
