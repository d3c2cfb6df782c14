package disk_test

import (
	"bytes"
	"math/rand"
	"testing"

	"pledge/api"
	"pledge/disk"
)

// model is a disk told another way: each sector by what it had at each write since it was sure.
type model struct {
	list  [][][]byte // of each sector first what is sure, behind it what was written since
	calls int
	fuse  int
	armed bool
	down  bool
}

func newModel(sectors int) *model {
	m := &model{}
	for range sectors {
		m.list = append(m.list, [][]byte{full(0)})
	}
	return m
}

func (m *model) fails() bool {
	if m.armed && !m.down {
		m.fuse--
		m.down = m.fuse == 0
	}
	return m.down
}

func (m *model) write(i int, b []byte) error {
	switch {
	case m.fails():
		return api.ErrCrash
	case i < 0 || i >= len(m.list):
		return api.ErrFull
	case len(b) != api.SectorSize:
		return api.ErrShape
	}
	m.list[i] = append(m.list[i], bytes.Clone(b))
	m.calls++
	return nil
}

func (m *model) flush() error {
	if m.fails() {
		return api.ErrCrash
	}
	for i, l := range m.list {
		m.list[i] = l[len(l)-1:]
	}
	m.calls++
	return nil
}

func (m *model) read(i int) ([]byte, error) {
	switch {
	case m.down:
		return nil, api.ErrCrash
	case i < 0 || i >= len(m.list):
		return nil, api.ErrFull
	}
	return m.list[i][len(m.list[i])-1], nil
}

func (m *model) crash(picks []int) {
	for i, l := range m.list {
		if len(l) == 1 {
			continue
		}
		n := 0
		if len(picks) > 0 {
			n = firstOf(picks[0])
			picks = picks[1:]
		}
		left := append(bytes.Clone(l[len(l)-1][:n]), l[0][n:]...)
		m.list[i] = [][]byte{left}
	}
	m.armed, m.down = false, false
}

func (m *model) pending() int {
	n := 0
	for _, l := range m.list {
		if len(l) > 1 {
			n++
		}
	}
	return n
}

// step does the same to both, as r says, and tells what both answered.
func step(r *rand.Rand, d *disk.Disk, m *model) (error, error) {
	switch r.Intn(12) {
	case 0, 1:
		return d.Flush(), m.flush()
	case 2:
		n := r.Intn(12) - 2
		d.Arm(n)
		m.fuse, m.armed = n, n > 0
	case 3:
		var picks []int
		for range r.Intn(len(m.list) + 2) {
			picks = append(picks, r.Intn(2000)-1000)
		}
		d.Crash(picks...)
		m.crash(picks)
	default:
		size := api.SectorSize
		if r.Intn(10) == 0 {
			size += r.Intn(3) - 1
		}
		b := make([]byte, size)
		r.Read(b)
		i := r.Intn(len(m.list)+2) - 1
		return d.Write(i, b), m.write(i, b)
	}
	return nil, nil
}

// P5.1, P5.2: any calls in any order.
func TestAsTheModel(t *testing.T) {
	for seed := range int64(200) {
		r := rand.New(rand.NewSource(seed))
		sectors := 1 + r.Intn(9)
		d, m := made(t, sectors), newModel(sectors)
		for at := range 200 {
			if got, want := step(r, d, m); got != want {
				t.Fatalf("seed %d, step %d: %v, want %v", seed, at, got, want)
			}
			if d.Down() != m.down || d.Pending() != m.pending() || d.Calls() != m.calls || d.Sectors() != sectors {
				t.Fatalf("seed %d, step %d: down %v, %d pending, %d calls, want %v, %d, %d", seed, at, d.Down(), d.Pending(), d.Calls(), m.down, m.pending(), m.calls)
			}
			for i := -1; i <= sectors; i++ {
				got, err := d.Read(i)
				if want, wrong := m.read(i); err != wrong || !bytes.Equal(got, want) {
					t.Fatalf("seed %d, step %d: Read(%d) = %v, %v, want %v, %v", seed, at, i, got, err, want, wrong)
				}
			}
			if r.Intn(20) == 0 {
				d = d.Clone()
			}
		}
	}
}
