package keep_test

import (
	"fmt"
	"strings"
	"testing"

	"pledge/api"
	"pledge/disk"
	"pledge/keep"
	"pledge/page"
)

// P8.1: what was put and deleted is committed.
func TestCommit(t *testing.T) {
	d := made(t, 1000)
	k := opens(t, d)
	puts(t, k, "a", "1")
	puts(t, k, "b", "2")
	has(t, opens(t, d), pairs{})
	commits(t, k)
	has(t, k, pairs{"a": "1", "b": "2"})
	has(t, opens(t, d), pairs{"a": "1", "b": "2"})
	dels(t, k, "a", true)
	puts(t, k, "b", "3")
	puts(t, k, "c", "")
	has(t, opens(t, d), pairs{"a": "1", "b": "2"})
	commits(t, k)
	has(t, opens(t, d), pairs{"b": "3", "c": ""})
	dels(t, k, "b", true)
	dels(t, k, "c", true)
	commits(t, k)
	has(t, opens(t, d), pairs{})
}

// P8.1: what was put and deleted is gone.
func TestAbort(t *testing.T) {
	d := made(t, 1000)
	k := opens(t, d)
	puts(t, k, "a", "1")
	k.Abort()
	has(t, k, pairs{})
	puts(t, k, "a", "1")
	puts(t, k, "b", "2")
	commits(t, k)
	dels(t, k, "a", true)
	puts(t, k, "b", "3")
	puts(t, k, "c", "4")
	for range 2 {
		k.Abort()
		has(t, k, pairs{"a": "1", "b": "2"})
		hasNot(t, k, "c")
	}
	commits(t, k)
	has(t, opens(t, d), pairs{"a": "1", "b": "2"})
}

// P8.1: Commit and Abort are the store's: asked of it, they do the same.
func TestTheStores(t *testing.T) {
	d := made(t, 1000)
	s := store(t, d)
	k := on(t, s)
	puts(t, k, "a", "1")
	if err := s.Commit(); err != nil {
		t.Fatal(err)
	}
	has(t, opens(t, d), pairs{"a": "1"})
	dels(t, k, "a", true)
	puts(t, k, "b", "2")
	s.Abort()
	has(t, k, pairs{"a": "1"})
	puts(t, k, "b", "2")
	commits(t, k)
	if s.Epoch() != 2 || s.Changed() != 0 {
		t.Error(s.Epoch(), s.Changed())
	}
	k.Abort()
	has(t, k, pairs{"a": "1", "b": "2"})
	puts(t, k, "a", "3")
	if s.Changed() == 0 {
		t.Error("nothing changed")
	}
	k.Abort()
	if s.Changed() != 0 {
		t.Error(s.Changed())
	}
}

// P8.1: with nothing put or deleted Commit writes nothing; nothing else asks anything of the disk, even if it is down.
func TestAsksOfTheDisk(t *testing.T) {
	d := made(t, 1000)
	s := store(t, d)
	k := on(t, s)
	puts(t, k, "a", "1")
	commits(t, k)
	calls := d.Calls()
	commits(t, k)
	k.Scan(nil, nil)
	dels(t, k, "b", false)
	putsNot(t, k, "", "", api.ErrRange)
	commits(t, k)
	if s.Epoch() != 1 || d.Calls() != calls {
		t.Error(s.Epoch(), d.Calls(), calls)
	}
	d.Arm(1)
	d.Flush()
	if !d.Down() {
		t.Fatal("it is up")
	}
	calls = d.Calls()
	puts(t, k, "b", "2")
	dels(t, k, "a", true)
	has(t, k, pairs{"b": "2"})
	k = on(t, s)
	has(t, k, pairs{"a": "1"})
	puts(t, k, "c", "3")
	k.Abort()
	has(t, k, pairs{"a": "1"})
	commits(t, k)
	if d.Calls() != calls {
		t.Error(d.Calls(), calls)
	}
	puts(t, k, "c", "3")
	commitsNot(t, k, api.ErrCrash)
}

// P8.1: a Commit that is ErrFull leaves all as it is: not committed, but there, till there is room or it is undone.
func TestCommitFull(t *testing.T) {
	d := made(t, 40)
	k := opens(t, d)
	puts(t, k, "a", "1")
	commits(t, k)
	want := pairs{"a": "1"}
	for i := range 100 {
		key := fmt.Sprint("k", i)
		puts(t, k, key, key)
		want[key] = key
	}
	calls := d.Calls()
	for range 2 {
		commitsNot(t, k, api.ErrFull)
		has(t, k, want)
	}
	if d.Calls() != calls {
		t.Error("it has written")
	}
	has(t, opens(t, d), pairs{"a": "1"})
	for i := range 100 {
		if i != 7 {
			dels(t, k, fmt.Sprint("k", i), true)
		}
	}
	commits(t, k)
	has(t, opens(t, d), pairs{"a": "1", "k7": "k7"})
	for i := range 100 {
		puts(t, k, fmt.Sprint("k", i), "")
	}
	commitsNot(t, k, api.ErrFull)
	k.Abort()
	has(t, k, pairs{"a": "1", "k7": "k7"})
}

// P8.2: Open of a store has what was there at its last Commit, not what was changed since.
func TestOpenIsTheLastCommit(t *testing.T) {
	d := made(t, 1000)
	s := store(t, d)
	k := on(t, s)
	puts(t, k, "a", "1")
	has(t, on(t, s), pairs{})
	puts(t, k, "a", "1")
	puts(t, k, "b", "2")
	commits(t, k)
	puts(t, k, "a", "3")
	dels(t, k, "b", true)
	puts(t, k, "c", "4")
	k = on(t, s)
	has(t, k, pairs{"a": "1", "b": "2"})
	commits(t, k)
	has(t, opens(t, d), pairs{"a": "1", "b": "2"})
	has(t, opens(t, d.Clone()), pairs{"a": "1", "b": "2"})
}

// P8.2: Open and commit, again and again.
func TestOpenAgain(t *testing.T) {
	d := made(t, 2000)
	want := pairs{}
	for i := range 120 {
		k := opens(t, d)
		has(t, k, want)
		key := strings.Repeat(fmt.Sprint(i), 1+i%7)
		puts(t, k, key, fmt.Sprint(i))
		want[key] = fmt.Sprint(i)
		if gone := strings.Repeat(fmt.Sprint(i/2), 1+i/2%7); i%3 == 0 && want[gone] != "" {
			dels(t, k, gone, true)
			delete(want, gone)
		}
		commits(t, k)
	}
	has(t, opens(t, d), want)
}

// P8.2, P0.1: pages that no keep wrote are no pairs: ErrShape, and no panic.
func TestOpenOfOtherPages(t *testing.T) {
	d := made(t, 1000)
	k := opens(t, d)
	puts(t, k, "a", "1")
	commits(t, k)
	s := store(t, d)
	own := s.Pages()[0]
	whole, _ := s.Read(own)
	for i, b := range [][]byte{
		{0},
		{1},
		{2, 'x'},
		{255},
		{48, 'k'},
		[]byte(strings.Repeat("\x80", 120)),
		[]byte(strings.Repeat("\x00", 120)),
		[]byte(strings.Repeat("\x02", 120)),
		whole,
	} {
		opensNot(t, d.Clone(), (own+1+i*200)%api.MaxPages, b)
	}
	for _, b := range [][]byte{{0}, whole[:1], append(whole, make([]byte, api.MaxValue)...), []byte("other")} {
		opensNot(t, d.Clone(), own, b)
	}
}

// opensNot commits a page that no keep wrote, beside the keep's pair or in its place.
func opensNot(t *testing.T, d *disk.Disk, p int, b []byte) {
	t.Helper()
	s := store(t, d)
	if err := s.Write(p, b); err != nil {
		t.Fatal(err)
	}
	has(t, on(t, s), pairs{"a": "1"})
	s.Write(p, b)
	if err := s.Commit(); err != nil {
		t.Fatal(err)
	}
	for _, s := range []*page.Store{s, store(t, d)} {
		if k, err := keep.Open(s); k != nil || err != api.ErrShape {
			t.Errorf("page %d, %v: Open = %v, %v", p, b, k, err)
		}
	}
}
