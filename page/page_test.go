package page_test

import (
	"bytes"
	"math"
	"slices"
	"testing"

	"pledge/api"
	"pledge/disk"
	"pledge/page"
)

const maxBytes = api.SectorSize - 8

func made(t *testing.T, sectors int) *disk.Disk {
	t.Helper()
	d, err := disk.New(sectors)
	if err != nil {
		t.Fatal(sectors, err)
	}
	return d
}

func opens(t *testing.T, d *disk.Disk) *page.Store {
	t.Helper()
	s, err := page.Open(d)
	if s == nil || err != nil {
		t.Fatalf("Open = %v, %v", s, err)
	}
	return s
}

func opensNot(t *testing.T, d *disk.Disk, want error) {
	t.Helper()
	if s, err := page.Open(d); s != nil || err != want {
		t.Errorf("Open = %v, %v, want %v", s, err, want)
	}
}

func writes(t *testing.T, s *page.Store, p int, b []byte) {
	t.Helper()
	if err := s.Write(p, b); err != nil {
		t.Fatalf("Write(%d, %d bytes) = %v", p, len(b), err)
	}
}

func drops(t *testing.T, s *page.Store, p int) {
	t.Helper()
	if err := s.Drop(p); err != nil {
		t.Fatalf("Drop(%d) = %v", p, err)
	}
}

func commits(t *testing.T, s *page.Store) {
	t.Helper()
	if err := s.Commit(); err != nil {
		t.Fatalf("Commit = %v", err)
	}
}

func commitsNot(t *testing.T, s *page.Store, want error) {
	t.Helper()
	if err := s.Commit(); err != want {
		t.Fatalf("Commit = %v, want %v", err, want)
	}
}

// has holds all that a store tells of its pages against those that are wanted.
func has(t *testing.T, s *page.Store, want map[int]string) {
	t.Helper()
	if said := differs(s, want); said != "" {
		t.Fatal(said)
	}
}

func changed(t *testing.T, s *page.Store, want int) {
	t.Helper()
	if got := s.Changed(); got != want {
		t.Fatalf("Changed() = %d, want %d", got, want)
	}
}

func epoch(t *testing.T, s *page.Store, want int64) {
	t.Helper()
	if got := s.Epoch(); got != want {
		t.Fatalf("Epoch() = %d, want %d", got, want)
	}
}

func full(n int, c byte) []byte { return bytes.Repeat([]byte{c}, n) }

// P7.1: the number is asked ahead of the bytes; what is refused changes nothing.
func TestWriteOfWhatIsWrong(t *testing.T) {
	s := opens(t, made(t, 100))
	writes(t, s, 0, []byte("a"))
	for _, p := range []int{math.MinInt, -api.MaxPages, -1, api.MaxPages, api.MaxPages + 1, math.MaxInt} {
		for _, n := range []int{0, 1, maxBytes, maxBytes + 1} {
			if err := s.Write(p, full(n, 7)); err != api.ErrRange {
				t.Errorf("Write(%d, %d bytes) = %v", p, n, err)
			}
		}
		if err := s.Write(p, nil); err != api.ErrRange {
			t.Errorf("Write(%d, nil) = %v", p, err)
		}
		if err := s.Drop(p); err != api.ErrRange {
			t.Errorf("Drop(%d) = %v", p, err)
		}
		if b, ok := s.Read(p); len(b) != 0 || ok {
			t.Errorf("Read(%d) = %v, %v", p, b, ok)
		}
	}
	for _, p := range []int{0, 1, api.MaxPages - 1} {
		for _, b := range [][]byte{nil, {}, full(maxBytes+1, 7), full(api.SectorSize, 7), full(100000, 7)} {
			if err := s.Write(p, b); err != api.ErrShape {
				t.Errorf("Write(%d, %d bytes) = %v", p, len(b), err)
			}
		}
	}
	changed(t, s, 1)
	has(t, s, map[int]string{0: "a"})
}

// P7.1
func TestWriteAndRead(t *testing.T) {
	d := made(t, 700)
	s := opens(t, d)
	want := map[int]string{}
	for n := 1; n <= maxBytes; n++ {
		b := full(n, byte(n))
		b[0], b[n-1] = 0, 0
		p := n * 17
		writes(t, s, p, b)
		want[p] = string(b)
		changed(t, s, n)
	}
	for _, p := range []int{0, 1, 63, 64, 65, api.MaxPages - 1} {
		writes(t, s, p, full(maxBytes, 255))
		want[p] = string(full(maxBytes, 255))
	}
	has(t, s, want)
	commits(t, s)
	has(t, s, want)
	has(t, opens(t, d), want)
}

// P7.1: pages with bytes that are all 0s are there.
func TestNothingButZeros(t *testing.T) {
	d := made(t, 100)
	s := opens(t, d)
	want := map[int]string{}
	for _, n := range []int{1, 2, maxBytes} {
		writes(t, s, n, full(n, 0))
		want[n] = string(full(n, 0))
	}
	has(t, s, want)
	commits(t, s)
	has(t, opens(t, d), want)
}

// P7.1: each page is counted once, one that was dropped only if it had been there.
func TestChanged(t *testing.T) {
	d := made(t, 100)
	s := opens(t, d)
	changed(t, s, 0)
	drops(t, s, 5)
	changed(t, s, 0)
	writes(t, s, 5, []byte("a"))
	writes(t, s, 5, []byte("b"))
	changed(t, s, 1)
	drops(t, s, 5) // it was written, though it is there no more
	drops(t, s, 5)
	changed(t, s, 1)
	writes(t, s, 6, []byte("c"))
	writes(t, s, 7, []byte("d"))
	changed(t, s, 3)
	commits(t, s)
	changed(t, s, 0)
	has(t, s, map[int]string{6: "c", 7: "d"})
	drops(t, s, 5)
	drops(t, s, 0)
	drops(t, s, api.MaxPages-1)
	changed(t, s, 0)
	drops(t, s, 6)
	drops(t, s, 6)
	changed(t, s, 1)
	writes(t, s, 6, []byte("c"))
	changed(t, s, 1)
	writes(t, s, 7, []byte("d")) // the same bytes are written all the same
	changed(t, s, 2)
	has(t, s, map[int]string{6: "c", 7: "d"})
	changed(t, opens(t, d), 0)
}

// P7.1
func TestDrop(t *testing.T) {
	d := made(t, 100)
	s := opens(t, d)
	for p := range 10 {
		writes(t, s, p, []byte{byte(p), 1})
	}
	drops(t, s, 3)
	commits(t, s)
	drops(t, s, 0)
	drops(t, s, 9)
	writes(t, s, 3, []byte("back"))
	want := map[int]string{1: "\x01\x01", 2: "\x02\x01", 3: "back", 4: "\x04\x01", 5: "\x05\x01", 6: "\x06\x01", 7: "\x07\x01", 8: "\x08\x01"}
	has(t, s, want)
	commits(t, s)
	has(t, s, want)
	has(t, opens(t, d), want)
}

// P7.1
func TestAbort(t *testing.T) {
	d := made(t, 100)
	s := opens(t, d)
	s.Abort()
	writes(t, s, 1, []byte("a"))
	s.Abort()
	has(t, s, nil)
	changed(t, s, 0)
	writes(t, s, 1, []byte("one"))
	writes(t, s, 2, []byte("two"))
	writes(t, s, 900, []byte("three"))
	commits(t, s)
	want := map[int]string{1: "one", 2: "two", 900: "three"}
	writes(t, s, 1, []byte("x"))
	drops(t, s, 2)
	drops(t, s, 900)
	writes(t, s, 900, []byte("y"))
	writes(t, s, 901, []byte("z"))
	changed(t, s, 4)
	s.Abort()
	s.Abort()
	has(t, s, want)
	changed(t, s, 0)
	epoch(t, s, 1)
	calls := d.Calls()
	commits(t, s)
	if d.Calls() != calls {
		t.Error("a Commit behind Abort wrote")
	}
	has(t, opens(t, d), want)
}

// P7.1: Read, Write, Drop, Abort ask nothing of the disk.
func TestNothingIsAskedOfTheDisk(t *testing.T) {
	d := made(t, 100)
	s := opens(t, d)
	writes(t, s, 1, []byte("one"))
	writes(t, s, 2, []byte("two"))
	commits(t, s)
	calls := d.Calls()
	writes(t, s, 3, []byte("three"))
	d.Arm(1)
	d.Flush() // and now it is down
	writes(t, s, 4, []byte("four"))
	drops(t, s, 1)
	has(t, s, map[int]string{2: "two", 3: "three", 4: "four"})
	changed(t, s, 3)
	epoch(t, s, 1)
	s.Abort()
	has(t, s, map[int]string{1: "one", 2: "two"})
	commits(t, s) // nothing is changed, nothing is asked
	if d.Calls() != calls || d.Pending() != 0 {
		t.Errorf("%d calls, %d pending", d.Calls(), d.Pending())
	}
}

// P7.1
func TestEpoch(t *testing.T) {
	d := made(t, 100)
	s := opens(t, d)
	epoch(t, s, 0)
	commits(t, s)
	drops(t, s, 3)
	commits(t, s)
	epoch(t, s, 0)
	for n := range 700 { // all of a number's lowest byte, and over
		writes(t, s, n%7, []byte{byte(n)})
		epoch(t, s, int64(n))
		commits(t, s)
		commits(t, s)
		s.Abort()
		epoch(t, s, int64(n)+1)
		epoch(t, opens(t, d), int64(n)+1)
	}
	for p := range 7 {
		drops(t, s, p)
	}
	commits(t, s)
	epoch(t, s, 701)
	s = opens(t, d)
	epoch(t, s, 701)
	has(t, s, nil)
	writes(t, s, 5, []byte("a"))
	drops(t, s, 5)
	commits(t, s) // it was written
	epoch(t, s, 702)
	epoch(t, opens(t, d), 702)
	has(t, opens(t, d), nil)
}

// P0.4
func TestMemory(t *testing.T) {
	d := made(t, 100)
	s := opens(t, d)
	room := []byte("abcdefgh")
	writes(t, s, 1, room[2:4])
	if string(room) != "abcdefgh" {
		t.Error("Write changed what it was handed")
	}
	clear(room)
	want := map[int]string{1: "cd"}
	has(t, s, want)
	spoil(t, s)
	has(t, s, want)
	commits(t, s)
	spoil(t, s)
	has(t, s, want)
	s = opens(t, d)
	spoil(t, s)
	has(t, s, want)
	writes(t, s, 2, []byte("e"))
	commits(t, s)
	has(t, opens(t, d), map[int]string{1: "cd", 2: "e"})
}

// spoil writes over all the lists that a store hands out, and over their spare room.
func spoil(t *testing.T, s *page.Store) {
	t.Helper()
	list := s.Pages()
	for _, p := range list {
		b, _ := s.Read(p)
		other, _ := s.Read(p)
		want := slices.Clone(other)
		clear(b[:cap(b)])
		if !bytes.Equal(other, want) {
			t.Errorf("two answers of Read(%d) share memory", p)
		}
	}
	other := s.Pages()
	want := slices.Clone(other)
	clear(list[:cap(list)])
	if !slices.Equal(other, want) {
		t.Error("two answers of Pages() share memory")
	}
}
