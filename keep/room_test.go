package keep_test

import (
	"fmt"
	"math/rand"
	"strings"
	"testing"

	"pledge/api"
	"pledge/disk"
)

const mostKeys = 600

// room is how many keys chapter 8 promises room for.
func room(sectors int) int { return min(mostKeys, (sectors-200)/6) }

// longKey is the i-th of keys that are as long as they may be.
func longKey(i int) string {
	key := fmt.Sprint(i)
	return strings.Repeat("0", api.MaxKey-len(key)) + key
}

// P8.3: with just as many keys as are promised, as great as they may be, all of them anew at each Commit.
func TestRoom(t *testing.T) {
	for _, sectors := range []int{200, 205, 206, 211, 212, 230, 299, 500, 800, 1400, 2000, 3794, 3799, 3800, 3801, 5000, api.MaxSectors} {
		d := made(t, sectors)
		k := opens(t, d)
		n := room(sectors)
		for round := range 3 {
			for i := range n {
				puts(t, k, longKey(i), strings.Repeat(fmt.Sprint(round), api.MaxValue))
			}
			commits(t, k)
		}
		if k.Len() != n || opens(t, d).Len() != n {
			t.Fatal(sectors, k.Len())
		}
	}
}

// P8.3: other keys come for those that go, a few a Commit, or nearly all, or all in one.
func TestRoomBehindMany(t *testing.T) {
	for _, sectors := range []int{206, 250, 400, 1000, 3800} {
		r := rand.New(rand.NewSource(int64(sectors)))
		d := made(t, sectors)
		k, n, next := opens(t, d), room(sectors), 0
		for round := range 40 {
			list := k.Scan(nil, nil)
			r.Shuffle(len(list), func(i, j int) { list[i], list[j] = list[j], list[i] })
			going := list
			if round%4 != 0 {
				going = list[:r.Intn(len(list)+1)]
			}
			for _, x := range going {
				dels(t, k, string(x.Key), true)
			}
			for k.Len() < n {
				puts(t, k, longKey(next*7919), strings.Repeat("v", api.MaxValue))
				next++
			}
			commits(t, k)
		}
		if k.Len() != n || opens(t, d).Len() != n {
			t.Fatal(sectors, k.Len())
		}
	}
}

// P8.3: behind more keys than are promised, too: committed or not, once they are as few again.
func TestRoomBehindTooMany(t *testing.T) {
	for _, sectors := range []int{206, 400, 2000} {
		d := made(t, sectors)
		k, n := opens(t, d), room(sectors)
		for round := range 3 {
			over := overfill(t, d, round)
			k = opens(t, d)
			for k.Len() < over {
				puts(t, k, longKey(k.Len()), strings.Repeat("w", api.MaxValue))
			}
			for i := over - 1; k.Len() > n; i-- {
				dels(t, k, longKey(i), true)
			}
			commits(t, k)
			for i := range n {
				puts(t, k, longKey(i), strings.Repeat("x", api.MaxValue))
			}
			commits(t, k)
		}
		if opens(t, d).Len() != n {
			t.Fatal(sectors)
		}
	}
}

// overfill commits as many keys as the disk takes; it tells how many.
func overfill(t *testing.T, d *disk.Disk, round int) int {
	t.Helper()
	k := opens(t, d)
	for i := range api.MaxPages {
		puts(t, k, longKey(i), fmt.Sprint(round))
		if i%5 == 0 && k.Commit() == api.ErrFull {
			break
		}
	}
	return opens(t, d).Len()
}
