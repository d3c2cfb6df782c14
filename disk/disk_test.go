package disk_test

import (
	"bytes"
	"math"
	"math/big"
	"math/rand"
	"slices"
	"testing"

	"pledge/api"
	"pledge/disk"
)

func made(t *testing.T, sectors int) *disk.Disk {
	t.Helper()
	d, err := disk.New(sectors)
	if err != nil {
		t.Fatal(sectors, err)
	}
	return d
}

func full(c byte) []byte { return bytes.Repeat([]byte{c}, api.SectorSize) }

// split is n bytes c, and behind them old ones.
func split(n int, c, old byte) []byte { return append(full(c)[:n:n], full(old)[n:]...) }

func shows(t *testing.T, d *disk.Disk, i int, want []byte) {
	t.Helper()
	if b, err := d.Read(i); err != nil || !bytes.Equal(b, want) {
		t.Errorf("Read(%d) = %v, %v, want %v", i, b, err, want)
	}
}

func writes(t *testing.T, d *disk.Disk, i int, b []byte) {
	t.Helper()
	if err := d.Write(i, b); err != nil {
		t.Errorf("Write(%d, ..) = %v", i, err)
	}
}

func flushes(t *testing.T, d *disk.Disk) {
	t.Helper()
	if err := d.Flush(); err != nil {
		t.Errorf("Flush() = %v", err)
	}
}

func counts(t *testing.T, d *disk.Disk, pending, calls int) {
	t.Helper()
	if d.Pending() != pending || d.Calls() != calls {
		t.Errorf("%d are pending, %d did well, want %d, %d", d.Pending(), d.Calls(), pending, calls)
	}
}

// P5.1
func TestNew(t *testing.T) {
	for _, n := range []int{math.MinInt, -api.MaxSectors, -1, 0, api.MaxSectors + 1, math.MaxInt} {
		if d, err := disk.New(n); d != nil || err != api.ErrRange {
			t.Errorf("New(%d) = %v, %v", n, d, err)
		}
	}
	for _, n := range []int{1, 2, 100, api.MaxSectors - 1, api.MaxSectors} {
		d := made(t, n)
		if d.Sectors() != n || d.Down() {
			t.Errorf("New(%d) has %d sectors, down %v", n, d.Sectors(), d.Down())
		}
		counts(t, d, 0, 0)
		for i := range n {
			shows(t, d, i, full(0))
		}
	}
}

// P5.1: the place is asked ahead of the bytes.
func TestWriteOfWhatIsWrong(t *testing.T) {
	d := made(t, 3)
	writes(t, d, 1, full(7))
	for _, x := range []struct {
		i    int
		b    []byte
		want error
	}{
		{3, full(1), api.ErrFull},
		{-1, full(1), api.ErrFull},
		{math.MinInt, full(1), api.ErrFull},
		{math.MaxInt, full(1), api.ErrFull},
		{3, nil, api.ErrFull},
		{-1, full(1)[1:], api.ErrFull},
		{1, nil, api.ErrShape},
		{1, []byte{}, api.ErrShape},
		{0, full(1)[1:], api.ErrShape},
		{2, append(full(1), 1), api.ErrShape},
		{1, slices.Concat(full(1), full(1)), api.ErrShape},
	} {
		if err := d.Write(x.i, x.b); err != x.want {
			t.Errorf("Write(%d, %d bytes) = %v, want %v", x.i, len(x.b), err, x.want)
		}
	}
	counts(t, d, 1, 1)
	for i, c := range []byte{0, 7, 0} {
		shows(t, d, i, full(c))
	}
}

// P5.1
func TestReadOfNoSector(t *testing.T) {
	d := made(t, 3)
	for _, i := range []int{math.MinInt, -1, 3, math.MaxInt} {
		if b, err := d.Read(i); len(b) > 0 || err != api.ErrFull {
			t.Errorf("Read(%d) = %v, %v", i, b, err)
		}
	}
	counts(t, d, 0, 0)
}

// P5.1: a sector that is written twice is pending once, one that stays as it was too.
func TestPendingAndCalls(t *testing.T) {
	d := made(t, 4)
	flushes(t, d)
	counts(t, d, 0, 1)
	writes(t, d, 3, full(1))
	writes(t, d, 0, full(0))
	counts(t, d, 2, 3)
	writes(t, d, 3, full(2))
	counts(t, d, 2, 4)
	shows(t, d, 3, full(2))
	flushes(t, d)
	counts(t, d, 0, 5)
	shows(t, d, 3, full(2))
	writes(t, d, 3, full(2))
	counts(t, d, 1, 6)
	d.Write(4, full(1))
	d.Write(0, nil)
	d.Read(0)
	counts(t, d, 1, 6)
}

// P5.1: every byte of every sector is kept, flushed or not.
func TestEachSectorHasItsOwn(t *testing.T) {
	r := rand.New(rand.NewSource(1))
	d := made(t, api.MaxSectors)
	want := make([][]byte, api.MaxSectors)
	for i := range want {
		want[i] = make([]byte, api.SectorSize)
		r.Read(want[i])
		writes(t, d, i, want[i])
	}
	counts(t, d, api.MaxSectors, api.MaxSectors)
	for i := range want {
		shows(t, d, i, want[i])
	}
	flushes(t, d)
	d.Crash()
	for i := range want {
		shows(t, d, i, want[i])
	}
}

// P5.1, P0.4: what is handed in stays as it is and is not kept; what is handed out is new memory.
func TestMemory(t *testing.T) {
	d := made(t, 2)
	room := append(full(1), 9, 9)
	b := room[:api.SectorSize]
	writes(t, d, 0, b)
	if !bytes.Equal(room, append(full(1), 9, 9)) {
		t.Error("what was handed in is not what it was", room)
	}
	room[0] = 5
	shows(t, d, 0, full(1))
	for range 2 { // pending, then flushed
		got, _ := d.Read(0)
		again, _ := d.Read(0)
		got[0] = 6
		got = got[:cap(got)]
		got[len(got)-1] = 6
		_ = append(got[:1], 7, 7)
		if !bytes.Equal(again, full(1)) {
			t.Error("another answer shows what was written into one", again)
		}
		shows(t, d, 0, full(1))
		flushes(t, d)
	}
	shows(t, d, 1, full(0))
	picks := []int{2 + 3*5, 1, 1}
	writes(t, d, 0, full(2))
	writes(t, d, 1, full(2))
	d.Crash(picks[:1]...)
	if !slices.Equal(picks, []int{2 + 3*5, 1, 1}) {
		t.Error("the picks are not what they were", picks)
	}
	shows(t, d, 0, split(5, 2, 1))
	shows(t, d, 1, full(0))
}

// P5.2: the n-th Write or Flush finds the power gone, whatever the others were handed.
func TestArm(t *testing.T) {
	for n := 1; n <= 5; n++ {
		d := made(t, 3)
		writes(t, d, 2, full(9))
		d.Arm(n)
		calls := []struct {
			call func() error
			want error
		}{
			{func() error { return d.Write(0, full(1)) }, nil},
			{func() error { return d.Write(3, full(1)) }, api.ErrFull},
			{d.Flush, nil},
			{func() error { return d.Write(1, nil) }, api.ErrShape},
			{func() error { return d.Write(1, full(1)) }, nil},
		}
		for i, x := range calls {
			if d.Down() != (i >= n) {
				t.Errorf("Arm(%d): down is %v ahead of call %d", n, d.Down(), i+1)
			}
			want := x.want
			if i >= n-1 {
				want = api.ErrCrash
			}
			if err := x.call(); err != want {
				t.Errorf("Arm(%d): call %d = %v, want %v", n, i+1, err, want)
			}
		}
		if !d.Down() {
			t.Errorf("Arm(%d): not down behind five calls", n)
		}
	}
}

// P5.2: the call that finds the power gone does nothing, and is told so whatever it is handed.
func TestPowerGoesInEachCall(t *testing.T) {
	for name, call := range map[string]func(*disk.Disk) error{
		"Write":          func(d *disk.Disk) error { return d.Write(0, full(2)) },
		"Write nowhere":  func(d *disk.Disk) error { return d.Write(2, full(2)) },
		"Write below":    func(d *disk.Disk) error { return d.Write(-1, nil) },
		"Write too few":  func(d *disk.Disk) error { return d.Write(0, full(2)[1:]) },
		"Write too many": func(d *disk.Disk) error { return d.Write(1, append(full(2), 2)) },
		"Flush":          (*disk.Disk).Flush,
	} {
		d := made(t, 2)
		writes(t, d, 0, full(1))
		d.Arm(1)
		for range 3 {
			if err := call(d); err != api.ErrCrash || !d.Down() {
				t.Errorf("%s = %v, down %v", name, err, d.Down())
			}
			counts(t, d, 1, 1)
		}
		kept := d.Clone()
		kept.Crash(1, 1)
		shows(t, kept, 0, full(1))
		shows(t, kept, 1, full(0))
		d.Crash()
		shows(t, d, 0, full(0))
		counts(t, d, 0, 1)
	}
}

// P5.1, P5.2: while it is down, it is asked ahead of all else.
func TestWhileDown(t *testing.T) {
	d := made(t, 2)
	writes(t, d, 0, full(1))
	d.Arm(1)
	d.Flush()
	for range 2 {
		for _, i := range []int{math.MinInt, -1, 0, 1, 2} {
			if b, err := d.Read(i); len(b) > 0 || err != api.ErrCrash {
				t.Errorf("Read(%d) = %v, %v", i, b, err)
			}
			if err := d.Write(i, full(1)); err != api.ErrCrash {
				t.Errorf("Write(%d, ..) = %v", i, err)
			}
			if err := d.Write(i, nil); err != api.ErrCrash {
				t.Errorf("Write(%d, nil) = %v", i, err)
			}
		}
		if err := d.Flush(); err != api.ErrCrash || !d.Down() || d.Sectors() != 2 {
			t.Error(err, d.Down(), d.Sectors())
		}
		counts(t, d, 1, 1)
		d.Arm(0) // it is disarmed, and stays down
	}
	d.Arm(1)
	d.Crash(1)
	if d.Down() {
		t.Error("down behind Crash")
	}
	counts(t, d, 0, 1)
	shows(t, d, 0, full(1))
	flushes(t, d) // what was armed while it was down is disarmed
	counts(t, d, 0, 2)
}

// P5.2
func TestArmAgainAndDisarm(t *testing.T) {
	for _, n := range []int{0, -1, -5, math.MinInt} {
		d := made(t, 1)
		d.Arm(1)
		d.Arm(n)
		for range 10 {
			flushes(t, d)
		}
		counts(t, d, 0, 10)
	}
	d := made(t, 1)
	d.Arm(3)
	flushes(t, d)
	d.Arm(2) // counts from here
	flushes(t, d)
	if err := d.Flush(); err != api.ErrCrash {
		t.Error("Arm(2) behind Arm(3):", err)
	}
	d.Crash()
	d.Arm(1)
	d.Crash()
	flushes(t, d)
	d.Arm(math.MaxInt)
	d.Read(0)
	flushes(t, d)
	d.Arm(1)
	d.Read(0) // no Write and no Flush: not counted
	d.Read(5)
	d.Clone().Flush()
	if d.Down() {
		t.Error("down without a Write or a Flush")
	}
	if err := d.Write(0, full(1)); err != api.ErrCrash {
		t.Error("Arm(1):", err)
	}
}

// P5.2: what is 0: none of what was written last, 1: all, 2: torn.
func TestPicks(t *testing.T) {
	type picked struct{ pick, first int }
	list := []picked{
		{0, 0}, {1, 128}, {3, 0}, {4, 128}, {6, 0}, {7, 128},
		{2, 0}, {5, 1}, {2 + 3*5, 5}, {2 + 3*127, 127}, {2 + 3*128, 128}, {2 + 3*129, 0}, {2 + 3*130, 1}, {2 + 3*258, 0},
		{-1, 128}, {-4, 127}, {-7, 126}, {-1 - 3*128, 0}, {-1 - 3*129, 128},
		{-2, 128}, {-3, 0}, {-5, 128}, {-6, 0},
	}
	for _, pick := range []int{math.MinInt, math.MinInt + 1, math.MinInt + 2, math.MinInt + 3, math.MaxInt - 3, math.MaxInt - 2, math.MaxInt - 1, math.MaxInt} {
		list = append(list, picked{pick, firstOf(pick)})
	}
	for pick := -1000; pick <= 1000; pick++ {
		list = append(list, picked{pick, firstOf(pick)})
	}
	d := made(t, 2)
	writes(t, d, 1, full(1))
	flushes(t, d)
	for _, x := range list {
		c := d.Clone()
		writes(t, c, 1, full(2))
		writes(t, c, 1, full(3)) // what was written last, not first
		c.Crash(x.pick)
		if b, err := c.Read(1); err != nil || !bytes.Equal(b, split(x.first, 3, 1)) {
			t.Errorf("Crash(%d): %v, %v, want %d bytes of what was written last", x.pick, b, err, x.first)
		}
		counts(t, c, 0, 4)
	}
}

// firstOf is how many bytes a pick leaves of what was written last, by numbers without bounds.
func firstOf(pick int) int {
	third, kind := new(big.Int).DivMod(big.NewInt(int64(pick)), big.NewInt(3), new(big.Int))
	switch kind.Int64() {
	case 0:
		return 0
	case 1:
		return api.SectorSize
	}
	return int(third.Mod(third, big.NewInt(api.SectorSize+1)).Int64())
}

// P5.2: the example: five 1s, then 0s.
func TestExample(t *testing.T) {
	d := made(t, 1)
	writes(t, d, 0, full(1))
	d.Crash(2 + 3*5)
	want := make([]byte, api.SectorSize)
	copy(want, []byte{1, 1, 1, 1, 1})
	shows(t, d, 0, want)
}

// P5.2: the picks go by the sectors that are pending, rising, in whatever order they were written.
func TestPicksInTheOrderOfTheSectors(t *testing.T) {
	d := made(t, 50)
	for i := range 50 {
		writes(t, d, i, full(1))
	}
	flushes(t, d)
	for _, i := range rand.New(rand.NewSource(2)).Perm(50) {
		if i%2 == 1 {
			writes(t, d, i, full(2))
		}
	}
	var picks []int
	for k := range 20 { // for the sectors 1, 3, .. 39; none for 41 and above
		picks = append(picks, 2+3*(5*k))
	}
	d.Crash(picks...)
	for i := range 50 {
		want := full(1)
		if i%2 == 1 && i < 40 {
			want = split(5*(i/2), 2, 1)
		}
		shows(t, d, i, want)
	}
}

// P5.2: more picks than sectors, and picks for none.
func TestPicksTooMany(t *testing.T) {
	d := made(t, 3)
	d.Crash(1, 1, 1, 1)
	for i := range 3 {
		shows(t, d, i, full(0))
	}
	writes(t, d, 1, full(1))
	d.Crash(1, 0, 2, 0)
	shows(t, d, 0, full(0))
	shows(t, d, 1, full(1))
	shows(t, d, 2, full(0))
	counts(t, d, 0, 1)
}

// P5.2: what a crash left stays, whatever a later one picks: nothing of it is pending.
func TestCrashBehindCrash(t *testing.T) {
	d := made(t, 1)
	writes(t, d, 0, full(1))
	d.Crash(1)
	d.Crash(0)
	shows(t, d, 0, full(1))
	writes(t, d, 0, full(2))
	d.Crash(2 + 3*7)
	shows(t, d, 0, split(7, 2, 1))
	writes(t, d, 0, full(3))
	d.Crash()
	shows(t, d, 0, split(7, 2, 1))
	writes(t, d, 0, full(4))
	flushes(t, d)
	d.Crash(0)
	shows(t, d, 0, full(4))
}

// Clone: as the disk, what is pending, counted and armed too; neither shows what the other is given.
func TestClone(t *testing.T) {
	d := made(t, 3)
	writes(t, d, 0, full(1))
	flushes(t, d)
	writes(t, d, 1, full(2))
	d.Arm(2)
	c := d.Clone()
	if c.Sectors() != 3 || c.Down() {
		t.Error(c.Sectors(), c.Down())
	}
	counts(t, c, 1, 3)
	writes(t, c, 2, full(3))
	if err := c.Flush(); err != api.ErrCrash || !c.Down() || d.Down() {
		t.Error(err, c.Down(), d.Down())
	}
	if !c.Clone().Down() {
		t.Error("a clone of one that is down is up")
	}
	counts(t, d, 1, 3)
	c.Crash(1, 1)
	for i, b := range []byte{1, 2, 3} {
		shows(t, c, i, full(b))
	}
	writes(t, d, 0, full(9))
	d.Arm(0)
	flushes(t, d)
	for i, b := range []byte{9, 2, 0} {
		shows(t, d, i, full(b))
	}
	for i, b := range []byte{1, 2, 3} {
		shows(t, c, i, full(b))
	}
}
