package page_test

import (
	"bytes"
	"fmt"
	"testing"

	"pledge/api"
	"pledge/disk"
	"pledge/page"
)

// sectorsOf is all that a disk has.
func sectorsOf(t *testing.T, d *disk.Disk) []byte {
	t.Helper()
	var all []byte
	for i := range d.Sectors() {
		b, err := d.Read(i)
		if err != nil {
			t.Fatal(i, err)
		}
		all = append(all, b...)
	}
	return all
}

// P7.1: what is committed is flushed.
func TestCommitIsSure(t *testing.T) {
	d := made(t, 100)
	s := opens(t, d)
	want := map[int]string{}
	for n := range 10 {
		p := n * 200
		writes(t, s, p, []byte(fmt.Sprint("page ", p)))
		want[p] = fmt.Sprint("page ", p)
		commits(t, s)
		if d.Pending() != 0 {
			t.Fatal(n, d.Pending(), "are pending")
		}
		c := d.Clone()
		c.Crash()
		has(t, opens(t, c), want)
	}
}

// P7.1: with nothing changed nothing is written.
func TestCommitOfNothing(t *testing.T) {
	d := made(t, 16)
	s := opens(t, d)
	commits(t, s)
	drops(t, s, 9)
	commits(t, s)
	writes(t, s, 9, []byte("a"))
	s.Abort()
	d.Arm(1)
	commits(t, s)
	if d.Calls() != 0 || d.Down() {
		t.Errorf("%d calls, down %v", d.Calls(), d.Down())
	}
	epoch(t, s, 0)
	writes(t, s, 9, []byte("a"))
	commitsNot(t, s, api.ErrCrash)
	d.Crash()
	s = opens(t, d)
	writes(t, s, 9, []byte("a"))
	commits(t, s)
	calls := d.Calls()
	commits(t, s)
	commits(t, opens(t, d))
	if d.Calls() != calls {
		t.Error("a Commit of nothing wrote")
	}
}

// P7.1: what is not committed is nowhere but in its store.
func TestNotCommitted(t *testing.T) {
	d := made(t, 100)
	s := opens(t, d)
	writes(t, s, 3, []byte("a"))
	has(t, opens(t, d), nil)
	commits(t, s)
	writes(t, s, 3, []byte("b"))
	writes(t, s, 4, []byte("c"))
	has(t, opens(t, d), map[int]string{3: "a"})
	drops(t, s, 3)
	has(t, opens(t, d), map[int]string{3: "a"})
	has(t, s, map[int]string{4: "c"})
	commits(t, s)
	has(t, opens(t, d), map[int]string{4: "c"})
}

// filled writes pages as many as there are to be, n each time anew.
func filled(t *testing.T, s *page.Store, pages, apart, n int) map[int]string {
	t.Helper()
	want := map[int]string{}
	for i := range pages {
		p := i * apart % api.MaxPages
		want[p] = fmt.Sprint(n, " of ", p)
		writes(t, s, p, []byte(want[p]))
	}
	return want
}

// P7.1: pages that alone are more than half of the sectors don't fit; nothing is written, and what was changed stays.
func TestFull(t *testing.T) {
	for _, sectors := range []int{16, 17, 18, 31, 64, 65, 149, 150, 151, 400, 1001} {
		d := made(t, sectors)
		s := opens(t, d)
		was := filled(t, s, 1, 1, 0)
		commits(t, s)
		drops(t, s, 0)
		before, calls := sectorsOf(t, d), d.Calls()
		want := filled(t, s, sectors/2+1, 1, 1)
		d.Arm(1)
		for range 2 {
			commitsNot(t, s, api.ErrFull)
			has(t, s, want)
			changed(t, s, len(want))
			epoch(t, s, 1)
		}
		if d.Calls() != calls || d.Pending() != 0 || d.Down() || !bytes.Equal(sectorsOf(t, d), before) {
			t.Errorf("%d sectors: a Commit that is ErrFull wrote", sectors)
		}
		d.Arm(0)
		has(t, opens(t, d), was)
		for p := 3; p <= sectors/2; p++ { // what was changed may be made less, and is committed
			drops(t, s, p)
			delete(want, p)
		}
		commits(t, s)
		has(t, s, want)
		epoch(t, s, 2)
		has(t, opens(t, d), want)
	}
}

// P7.1: ErrFull is named ahead of ErrCrash.
func TestFullWhileDown(t *testing.T) {
	d := made(t, 16)
	s := opens(t, d)
	filled(t, s, 9, 1, 0)
	d.Arm(1)
	d.Flush()
	commitsNot(t, s, api.ErrFull)
	changed(t, s, 9)
	for p := 1; p < 9; p++ {
		drops(t, s, p)
	}
	commitsNot(t, s, api.ErrCrash)
}

// P7.1: what is dropped is in use no more, wherever it was.
func TestOnePageThatMoves(t *testing.T) {
	d := made(t, 16)
	s := opens(t, d)
	for p := 0; p < api.MaxPages; p += 31 {
		writes(t, s, p, []byte("here"))
		commits(t, s)
		has(t, opens(t, d), map[int]string{p: "here"})
		drops(t, s, p)
	}
}

// P7.1: a disk of which more than half is in use, as no Commit leaves it, has no room to write even a few pages anew.
func TestNoRoom(t *testing.T) {
	from, d := made(t, 100), made(t, 16)
	s := opens(t, from)
	want := filled(t, s, 11, 1, 0)
	commits(t, s)
	for i := range 16 {
		b, err := from.Read(i)
		if err != nil {
			t.Fatal(i, err)
		}
		if err := d.Write(i, b); err != nil {
			t.Fatal(i, err)
		}
	}
	s = opens(t, d)
	has(t, s, want)
	anew := filled(t, s, 2, 1, 1)
	for p := 2; p < 11; p++ {
		drops(t, s, p)
	}
	commitsNot(t, s, api.ErrFull)
	has(t, s, anew)
	changed(t, s, 11)
	has(t, opens(t, d), want)
	drops(t, s, 0)
	commits(t, s)
	has(t, s, map[int]string{1: anew[1]})
	writes(t, s, 0, []byte(anew[0]))
	commits(t, s)
	has(t, opens(t, d), anew)
}

// P7.1: not more than half of the sectors is in use, so that all of it may change in one Commit.
func TestMostThatFits(t *testing.T) {
	for _, sectors := range []int{16, 17, 40, 100, 301} {
		for _, apart := range []int{1, 29, 64} {
			d := made(t, sectors)
			s := opens(t, d)
			pages, want := 0, map[int]string{}
			for pages < api.MaxPages/apart {
				more := filled(t, s, pages+1, apart, pages)
				err := s.Commit()
				if err == api.ErrFull {
					break
				}
				if err != nil {
					t.Fatal(sectors, apart, pages, err)
				}
				pages, want = pages+1, more
			}
			s.Abort()
			has(t, s, want)
			if pages < 1 || pages > sectors/2 {
				t.Errorf("%d sectors, %d apart: %d pages fit", sectors, apart, pages)
			}
			for n := range 5 {
				want = filled(t, s, pages, apart, n)
				commits(t, s)
				has(t, opens(t, d), want)
			}
			for p := range want {
				drops(t, s, p)
			}
			commits(t, s)
			has(t, opens(t, d), nil)
		}
	}
}

// P7.3: as many pages as are promised, wherever they are, all of them written anew again and again.
func TestRoom(t *testing.T) {
	for _, sectors := range []int{152, 153, 154, 200, 213, 300, 400, 777, 2048, 4245, 4246, 4247, api.MaxSectors} {
		pages := min((sectors-150)/2, api.MaxPages)
		for _, apart := range []int{1, 29, 67, 1023} { // each odd, so that each page is there once
			d := made(t, sectors)
			s := opens(t, d)
			var want map[int]string
			for n := range 5 {
				want = filled(t, s, pages, apart, n)
				if len(want) != pages {
					t.Fatal(len(want), pages)
				}
				commits(t, s)
				changed(t, s, 0)
				if n == 2 {
					s = opens(t, d)
				}
			}
			has(t, s, want)
			has(t, opens(t, d), want)
		}
	}
}

// P7.3: the pages that count are those behind the Commit, not those ahead of it, and not those that were changed.
func TestRoomBehindTheCommit(t *testing.T) {
	d := made(t, 350)
	s := opens(t, d)
	for n := range 40 {
		want := filled(t, s, 100, 1, n)
		for p := range 100 {
			writes(t, s, 1000+p, []byte("gone again"))
			drops(t, s, 1000+p)
		}
		commits(t, s)
		has(t, s, want)
		for p := range want {
			drops(t, s, p)
		}
		moved := map[int]string{}
		for p, b := range want {
			moved[api.MaxPages-1-p] = b
			writes(t, s, api.MaxPages-1-p, []byte(b))
		}
		commits(t, s)
		has(t, s, moved)
		has(t, opens(t, d), moved)
		for p := range moved {
			drops(t, s, p)
		}
	}
	s.Abort()
	for _, p := range s.Pages() {
		drops(t, s, p)
	}
	writes(t, s, 7, []byte("one"))
	commits(t, s)
	has(t, opens(t, d), map[int]string{7: "one"})
}

// P7.1: all the pages that there may be, as long as they may be, on the greatest disk: sectors of all numbers.
func TestAllPages(t *testing.T) {
	d := made(t, api.MaxSectors)
	s := opens(t, d)
	for n := range 3 {
		want := map[int]string{}
		for p := range api.MaxPages {
			b := full(maxBytes, byte(p))
			b[0], b[1] = byte(p>>8), byte(n)
			want[p] = string(b)
			writes(t, s, p, b)
		}
		changed(t, s, api.MaxPages)
		commits(t, s)
		has(t, s, want)
		has(t, opens(t, d), want)
	}
}
