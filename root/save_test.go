package root_test

import (
	"bytes"
	"math"
	"math/rand"
	"testing"

	"pledge/api"
	"pledge/disk"
	"pledge/root"
)

func made(t *testing.T, sectors int) *disk.Disk {
	t.Helper()
	d, err := disk.New(sectors)
	if err != nil {
		t.Fatal(sectors, err)
	}
	return d
}

func saves(t *testing.T, d *disk.Disk, r root.Root) {
	t.Helper()
	if err := root.Save(d, r); err != nil {
		t.Fatalf("Save(%v) = %v", r, err)
	}
}

func refuses(t *testing.T, d *disk.Disk, r root.Root, want error) {
	t.Helper()
	if err := root.Save(d, r); err != want {
		t.Errorf("Save(%v) = %v, want %v", r, err, want)
	}
}

func loads(t *testing.T, d *disk.Disk, want root.Root) {
	t.Helper()
	if r, ok, err := root.Load(d); !ok || err != nil || !same(r, want) {
		t.Errorf("Load = %v, %v, %v, want %v", r, ok, err, want)
	}
}

func loadsNone(t *testing.T, d *disk.Disk, want error) {
	t.Helper()
	if r, ok, err := root.Load(d); ok || err != want || r.Epoch != 0 || len(r.List) != 0 {
		t.Errorf("Load = %v, %v, %v, want none, %v", r, ok, err, want)
	}
}

func writes(t *testing.T, d *disk.Disk, i int, b []byte) {
	t.Helper()
	if err := d.Write(i, b); err != nil {
		t.Fatal(i, err)
	}
}

func has(t *testing.T, d *disk.Disk, i int, want []byte) {
	t.Helper()
	if b, err := d.Read(i); err != nil || !bytes.Equal(b, want) {
		t.Errorf("sector %d has %v, %v, want %v", i, b, err, want)
	}
}

func nothing() []byte { return make([]byte, api.SectorSize) }

// P6.3
func TestSave(t *testing.T) {
	for _, e := range []int64{1, 2, 3, 4, 255, 256, 257, maxEpoch - 1, maxEpoch} {
		r := root.Root{Epoch: e, List: []int{3, 0, api.MaxSectors}}
		d := made(t, 4)
		saves(t, d, r)
		if d.Pending() != 0 || d.Calls() != 2 {
			t.Errorf("Epoch %d: %d pending, %d calls", e, d.Pending(), d.Calls())
		}
		d.Crash()
		mine := 1
		if e == 2 || e == 4 || e == 256 || e == maxEpoch {
			mine = 0
		}
		has(t, d, mine, laid(t, r))
		for i := range 4 {
			if i != mine {
				has(t, d, i, nothing())
			}
		}
		loads(t, d, r)
	}
}

// P6.3: flushed, all that was pending ahead of it too.
func TestSaveFlushesAll(t *testing.T) {
	d := made(t, 4)
	b := bytes.Repeat([]byte{7}, api.SectorSize)
	writes(t, d, 3, b)
	saves(t, d, root.Root{Epoch: 1})
	d.Crash()
	has(t, d, 3, b)
	loads(t, d, root.Root{Epoch: 1})
}

// P6.3: Bytes' errors are met first, and nothing is changed.
func TestSaveRefused(t *testing.T) {
	d := made(t, 4)
	saves(t, d, root.Root{Epoch: 1, List: []int{5}})
	d.Arm(1)
	for _, e := range []int64{math.MinInt64, -2, -1, 0, maxEpoch + 1, maxEpoch + 2, math.MaxInt64} {
		refuses(t, d, root.Root{Epoch: e}, api.ErrRange)
	}
	refuses(t, d, root.Root{Epoch: 2, List: []int{-1}}, api.ErrRange)
	refuses(t, d, root.Root{Epoch: 2, List: []int{api.MaxSectors + 1}}, api.ErrRange)
	refuses(t, d, root.Root{Epoch: 2, List: filled(41, 1)}, api.ErrMany)
	if d.Calls() != 2 || d.Pending() != 0 || d.Down() {
		t.Errorf("%d calls, %d pending, down %v", d.Calls(), d.Pending(), d.Down())
	}
	loads(t, d, root.Root{Epoch: 1, List: []int{5}})
	refuses(t, d, root.Root{Epoch: 2}, api.ErrCrash)
	refuses(t, d, root.Root{Epoch: 0}, api.ErrRange)
	refuses(t, d, root.Root{Epoch: 2, List: filled(41, 1)}, api.ErrMany)
	d.Crash()
	loads(t, d, root.Root{Epoch: 1, List: []int{5}})
}

// P6.3
func TestOneSector(t *testing.T) {
	d := made(t, 1)
	loadsNone(t, d, api.ErrFull)
	refuses(t, d, root.Root{Epoch: 3}, api.ErrFull)
	if d.Calls() != 0 || d.Pending() != 0 {
		t.Errorf("%d calls, %d pending", d.Calls(), d.Pending())
	}
	saves(t, d, root.Root{Epoch: 2, List: []int{6}})
	has(t, d, 0, laid(t, root.Root{Epoch: 2, List: []int{6}}))
	loadsNone(t, d, api.ErrFull)
}

// P6.3
func TestLoad(t *testing.T) {
	one, two := root.Root{Epoch: 1, List: []int{1}}, root.Root{Epoch: 2, List: []int{2}}
	big, most := root.Root{Epoch: 1<<32 + 1, List: falling(40)}, root.Root{Epoch: maxEpoch, List: []int{}}
	other := root.Root{Epoch: 1, List: []int{9, 9}}
	none := root.Root{}
	for i, x := range []struct{ first, second, want root.Root }{
		{none, none, none},
		{one, none, one},
		{none, one, one},
		{two, none, two},
		{one, two, two},
		{two, one, two},
		{big, two, big},
		{two, big, big},
		{big, most, most},
		{most, big, most},
		{one, other, one},
		{other, one, other},
		{most, most, most},
	} {
		d := made(t, 3)
		for at, r := range []root.Root{x.first, x.second} {
			if r.Epoch != 0 {
				writes(t, d, at, laid(t, r))
			}
		}
		if x.want.Epoch == 0 {
			loadsNone(t, d, nil)
			continue
		}
		calls, pending := d.Calls(), d.Pending()
		loads(t, d, x.want)
		if d.Calls() != calls || d.Pending() != pending || d.Down() {
			t.Error(i, "Load changed the disk")
		}
	}
}

// P6.3: only sectors 0 and 1 count, and only what is a root.
func TestLoadOfOtherSectors(t *testing.T) {
	d := made(t, 4)
	writes(t, d, 2, laid(t, root.Root{Epoch: 8}))
	writes(t, d, 3, laid(t, root.Root{Epoch: 9}))
	loadsNone(t, d, nil)
	writes(t, d, 0, bytes.Repeat([]byte{255}, api.SectorSize))
	loadsNone(t, d, nil)
	writes(t, d, 1, laid(t, root.Root{Epoch: 5}))
	loads(t, d, root.Root{Epoch: 5})
	writes(t, d, 0, laid(t, root.Root{Epoch: 4}))
	writes(t, d, 1, bytes.Repeat([]byte{1}, api.SectorSize))
	loads(t, d, root.Root{Epoch: 4})
}

// P6.3
func TestLoadWhileDown(t *testing.T) {
	d := made(t, 2)
	saves(t, d, root.Root{Epoch: 1, List: []int{4}})
	d.Arm(1)
	refuses(t, d, root.Root{Epoch: 2}, api.ErrCrash)
	loadsNone(t, d, api.ErrCrash)
	refuses(t, d, root.Root{Epoch: 2}, api.ErrCrash)
	d.Crash()
	loads(t, d, root.Root{Epoch: 1, List: []int{4}})
}

// P6.3, P0.4
func TestLoadedMemory(t *testing.T) {
	d := made(t, 2)
	l := []int{1, 2, 3}
	saves(t, d, root.Root{Epoch: 1, List: l})
	clear(l)
	r, _, _ := root.Load(d)
	clear(r.List[:cap(r.List)])
	loads(t, d, root.Root{Epoch: 1, List: []int{1, 2, 3}})
}

// P6.3: the first Save falls.
func TestFirstSaveFalls(t *testing.T) {
	r := root.Root{Epoch: 1, List: falling(40)}
	for arm := 1; arm <= 2; arm++ {
		for pick := range 3 * (api.SectorSize + 1) {
			d := made(t, 2)
			d.Arm(arm)
			refuses(t, d, r, api.ErrCrash)
			d.Crash(pick)
			_, torn, _ := root.Load(d)
			switch {
			case arm == 1, pick%3 == 0:
				loadsNone(t, d, nil)
			case pick%3 == 1, torn:
				loads(t, d, r)
			default:
				loadsNone(t, d, nil)
			}
		}
	}
}

// P6.3: the last Save falls, at each call and each way, behind any number of them.
func TestLastSaveFalls(t *testing.T) {
	for _, start := range []int64{1, 2, 254, 255, 65534, 1<<24 - 1, 1<<32 - 2, maxEpoch - 3} {
		d := made(t, 2)
		for e := start; e < start+3; e++ {
			before, after := root.Root{Epoch: e, List: filled(40, int(e%9))}, root.Root{Epoch: e + 1, List: falling(int(e % 41))}
			saves(t, d, before)
			for arm := 1; arm <= 2; arm++ {
				for pick := range 3 * (api.SectorSize + 1) {
					fall(t, d.Clone(), arm, pick, before, after)
				}
			}
		}
	}
}

func fall(t *testing.T, d *disk.Disk, arm, pick int, before, after root.Root) {
	t.Helper()
	d.Arm(arm)
	refuses(t, d, after, api.ErrCrash)
	d.Crash(pick)
	r, ok, err := root.Load(d)
	if !ok || err != nil || !same(r, before) && !same(r, after) {
		t.Fatalf("fall at %d, pick %d: Load = %v, %v, %v, want %v or %v", arm, pick, r, ok, err, before, after)
	}
	if arm == 2 && pick%3 == 1 && !same(r, after) {
		t.Fatalf("pick %d: all of it was written, Load = %v", pick, r)
	}
	if (arm == 1 || pick%3 == 0) && !same(r, before) {
		t.Fatalf("pick %d: none of it was written, Load = %v", pick, r)
	}
}

// P6.3: fall upon fall, each Epoch saved until it is there.
func TestFallsAgainAndAgain(t *testing.T) {
	random := rand.New(rand.NewSource(63))
	d := made(t, 2)
	var last root.Root
	for range 20000 {
		next := root.Root{Epoch: last.Epoch + 1, List: filled(random.Intn(41), random.Intn(api.MaxSectors+1))}
		arm := random.Intn(4)
		d.Arm(arm)
		err := root.Save(d, next)
		if fell := arm == 1 || arm == 2; fell != (err == api.ErrCrash) || !fell && err != nil {
			t.Fatalf("armed %d, Save = %v", arm, err)
		}
		d.Crash(random.Int())
		r, ok, broken := root.Load(d)
		switch {
		case broken != nil || ok != (r.Epoch > 0):
			t.Fatalf("Load = %v, %v, %v", r, ok, broken)
		case err == nil && !same(r, next), !same(r, next) && !same(r, last):
			t.Fatalf("Save = %v, Load = %v, want %v or %v", err, r, next, last)
		}
		last = r
	}
	if last.Epoch < 1000 {
		t.Errorf("only %d Epochs were saved", last.Epoch)
	}
}
