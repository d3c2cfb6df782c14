package keep_test

import (
	"bytes"
	"math/rand"
	"strings"
	"testing"

	"pledge/api"
	"pledge/disk"
	"pledge/keep"
	"pledge/page"
)

func made(t *testing.T, sectors int) *disk.Disk {
	t.Helper()
	d, err := disk.New(sectors)
	if err != nil {
		t.Fatal(sectors, err)
	}
	return d
}

func store(t *testing.T, d *disk.Disk) *page.Store {
	t.Helper()
	s, err := page.Open(d)
	if err != nil {
		t.Fatal("page.Open =", err)
	}
	return s
}

func on(t *testing.T, s *page.Store) *keep.Keep {
	t.Helper()
	k, err := keep.Open(s)
	if k == nil || err != nil {
		t.Fatalf("Open = %v, %v", k, err)
	}
	return k
}

func opens(t *testing.T, d *disk.Disk) *keep.Keep {
	t.Helper()
	return on(t, store(t, d))
}

func puts(t *testing.T, k *keep.Keep, key, value string) {
	t.Helper()
	if err := k.Put([]byte(key), []byte(value)); err != nil {
		t.Fatalf("Put(%q, %q) = %v", key, value, err)
	}
}

func putsNot(t *testing.T, k *keep.Keep, key, value string, want error) {
	t.Helper()
	if err := k.Put([]byte(key), []byte(value)); err != want {
		t.Fatalf("Put(%q, %q) = %v, want %v", key, value, err, want)
	}
}

func dels(t *testing.T, k *keep.Keep, key string, want bool) {
	t.Helper()
	if got := k.Del([]byte(key)); got != want {
		t.Fatalf("Del(%q) = %v", key, got)
	}
}

func commits(t *testing.T, k *keep.Keep) {
	t.Helper()
	if err := k.Commit(); err != nil {
		t.Fatal("Commit =", err)
	}
}

func commitsNot(t *testing.T, k *keep.Keep, want error) {
	t.Helper()
	if err := k.Commit(); err != want {
		t.Fatalf("Commit = %v, want %v", err, want)
	}
}

// has holds all that a keep tells against the pairs that are wanted.
func has(t *testing.T, k *keep.Keep, want map[string]string) {
	t.Helper()
	if said := differs(k, want); said != "" {
		t.Fatal(said)
	}
}

func hasNot(t *testing.T, k *keep.Keep, key string) {
	t.Helper()
	if v, ok := k.Get([]byte(key)); len(v) != 0 || ok {
		t.Fatalf("Get(%q) = %q, %v", key, v, ok)
	}
}

// scans holds the keys of a Scan, told one behind the other, against those that are wanted.
func scans(t *testing.T, k *keep.Keep, from, to, want string) {
	t.Helper()
	var got []string
	for _, x := range k.Scan([]byte(from), []byte(to)) {
		got = append(got, string(x.Key))
	}
	if strings.Join(got, " ") != want {
		t.Fatalf("Scan(%q, %q) = %q, want %q", from, to, got, want)
	}
}

type pairs = map[string]string

// P8.1, P8.2: a new keep has nothing.
func TestNew(t *testing.T) {
	k := opens(t, made(t, 1000))
	has(t, k, pairs{})
	dels(t, k, "a", false)
	dels(t, k, "", false)
	k.Abort()
	commits(t, k)
	has(t, k, pairs{})
}

// P8.1: the example: what was put, rising.
func TestPut(t *testing.T) {
	k := opens(t, made(t, 1000))
	puts(t, k, "b", "1")
	puts(t, k, "a", "2")
	scans(t, k, "", "", "a b")
	has(t, k, pairs{"a": "2", "b": "1"})
}

// P8.1: a key that is there gets another value: longer, shorter, none.
func TestPutAnew(t *testing.T) {
	k := opens(t, made(t, 1000))
	puts(t, k, "next", "beside")
	for _, v := range []string{"1", "", strings.Repeat("v", api.MaxValue), "1", "1", strings.Repeat("\x00", api.MaxValue)} {
		puts(t, k, "key", v)
		has(t, k, pairs{"key": v, "next": "beside"})
	}
}

// P8.1: keys of each length from 1 on, values of each from 0 on, and what is just past.
func TestLengths(t *testing.T) {
	k := opens(t, made(t, 2000))
	want := pairs{}
	for n := 1; n <= api.MaxKey; n++ {
		want[strings.Repeat("k", n)] = strings.Repeat("v", api.MaxValue)
	}
	for n := range api.MaxValue + 1 {
		want["value"+string(rune('0'+n))] = strings.Repeat("w", n)
	}
	for key, v := range want {
		puts(t, k, key, v)
	}
	has(t, k, want)
	long, wide := strings.Repeat("k", api.MaxKey+1), strings.Repeat("v", api.MaxValue+1)
	for _, key := range []string{"", long, strings.Repeat("k", 100000)} {
		for _, v := range []string{"", "v", wide} {
			putsNot(t, k, key, v, api.ErrRange)
		}
		hasNot(t, k, key)
		dels(t, k, key, false)
	}
	for _, v := range []string{wide, strings.Repeat("v", 100000)} {
		putsNot(t, k, "k", v, api.ErrRange)
		putsNot(t, k, "new", v, api.ErrRange)
	}
	has(t, k, want)
}

// P8.1: any bytes are a key's and a value's; keys stand by their bytes, a shorter one ahead of those that go on.
func TestBytes(t *testing.T) {
	k := opens(t, made(t, 2000))
	want := pairs{}
	for _, c := range []string{"\x00", "\x01", " ", "a", "\x7f", "\x80", "\xfe", "\xff"} {
		for _, key := range []string{c, c + "\x00", c + "\xff", "\x00" + c, "\xff" + c, strings.Repeat(c, api.MaxKey)} {
			want[key] = c + key
		}
	}
	for key, v := range want {
		puts(t, k, key, v)
	}
	has(t, k, want)
	commits(t, k)
	has(t, k, want)
}

// P8.1: of what is not there Del answers false, and nothing changes.
func TestDel(t *testing.T) {
	k := opens(t, made(t, 1000))
	want := pairs{"a": "1", "ab": "2", "b": "3"}
	for key, v := range want {
		puts(t, k, key, v)
	}
	for _, key := range []string{"", "aa", "abc", "c", "a\x00", "\x00", strings.Repeat("a", api.MaxKey+1)} {
		dels(t, k, key, false)
	}
	has(t, k, want)
	dels(t, k, "ab", true)
	dels(t, k, "ab", false)
	delete(want, "ab")
	has(t, k, want)
	puts(t, k, "ab", "4")
	want["ab"] = "4"
	has(t, k, want)
	for _, key := range []string{"a", "b", "ab"} {
		dels(t, k, key, true)
	}
	has(t, k, pairs{})
}

// P8.1: from from on, ahead of to; an empty to is the end.
func TestScan(t *testing.T) {
	k := opens(t, made(t, 1000))
	for _, key := range []string{"c", "ab", "b", "a", "abc", "\xff\xff"} {
		puts(t, k, key, key)
	}
	for _, x := range []struct{ from, to, want string }{
		{"", "", "a ab abc b c \xff\xff"},
		{"a", "", "a ab abc b c \xff\xff"},
		{"a\x00", "", "ab abc b c \xff\xff"},
		{"", "\x00", ""},
		{"", "a", ""},
		{"", "a\x00", "a"},
		{"a", "ab", "a"},
		{"ab", "b", "ab abc"},
		{"ab", "ab", ""},
		{"abc", "ab", ""},
		{"c", "b", ""},
		{"c", "a", ""},
		{"aa", "bb", "ab abc b"},
		{"c", "\xff\xff", "c"},
		{"c", "\xff\xff\x00", "c \xff\xff"},
		{"\xff\xff", "", "\xff\xff"},
		{"\xff\xff\x00", "", ""},
		{strings.Repeat("\xff", 100), "", ""},
		{"b", strings.Repeat("c", 100), "b c"},
	} {
		scans(t, k, x.from, x.to, x.want)
	}
	if list := k.Scan(nil, nil); len(list) != 6 || string(list[5].Value) != "\xff\xff" {
		t.Error(list)
	}
}

// P8.1: up to a page for each key, not one more; a key that is there is put anew even then, and a wrong one is ErrRange first.
func TestFull(t *testing.T) {
	k := opens(t, made(t, 16))
	want := pairs{}
	r := rand.New(rand.NewSource(81))
	for len(want) < api.MaxPages {
		key := noise(r, 1+r.Intn(api.MaxKey))
		want[key] = noise(r, r.Intn(api.MaxValue+1))
		puts(t, k, key, want[key])
	}
	has(t, k, want)
	there := string(k.Scan(nil, nil)[1000].Key)
	fresh := there + "-"
	if len(fresh) > api.MaxKey {
		fresh = there[1:]
	}
	for range 2 {
		putsNot(t, k, fresh, "", api.ErrFull)
		putsNot(t, k, "", "", api.ErrRange)
		putsNot(t, k, fresh, strings.Repeat("v", api.MaxValue+1), api.ErrRange)
		hasNot(t, k, fresh)
		dels(t, k, fresh, false)
		has(t, k, want)
		want[there] += "x"
		want[there] = want[there][:min(len(want[there]), api.MaxValue)]
		puts(t, k, there, want[there])
		dels(t, k, there, true)
		puts(t, k, fresh, "in its place")
		putsNot(t, k, there, "", api.ErrFull)
		dels(t, k, fresh, true)
		puts(t, k, there, want[there])
		has(t, k, want)
	}
	commitsNot(t, k, api.ErrFull)
	has(t, k, want)
	for key := range want {
		dels(t, k, key, true)
	}
	has(t, k, pairs{})
}

// noise is so many bytes.
func noise(r *rand.Rand, n int) string {
	b := make([]byte, n)
	r.Read(b)
	return string(b)
}

// P0.4: what is handed in is neither changed nor kept, nor is what lies behind its length touched.
func TestHandedIn(t *testing.T) {
	k := opens(t, made(t, 1000))
	room := []byte("keyvalue+spare")
	key, value := room[:3], room[3:8]
	if err := k.Put(key, value); err != nil || string(room) != "keyvalue+spare" {
		t.Fatalf("%v, %q", err, room)
	}
	k.Get(key)
	k.Scan(key, value)
	if string(room) != "keyvalue+spare" {
		t.Fatalf("%q", room)
	}
	copy(room, "KEYVALUE+SPARE")
	has(t, k, pairs{"key": "value"})
	k.Del(key)
	k.Del(append([]byte(nil), "key"...)[:2])
	has(t, k, pairs{"key": "value"})
}

// P0.4: nil and the empty list are the same.
func TestNil(t *testing.T) {
	k := opens(t, made(t, 1000))
	if err := k.Put(nil, nil); err != api.ErrRange {
		t.Error(err)
	}
	if v, ok := k.Get(nil); len(v) != 0 || ok || k.Del(nil) {
		t.Error(v, ok)
	}
	if err := k.Put([]byte("a"), nil); err != nil {
		t.Error(err)
	}
	puts(t, k, "b", "")
	has(t, k, pairs{"a": "", "b": ""})
	for _, from := range [][]byte{nil, {}} {
		for _, to := range [][]byte{nil, {}} {
			if list := k.Scan(from, to); len(list) != 2 {
				t.Error(from, to, list)
			}
		}
	}
}

// P0.4: whatever is written into an answer, or behind it, no other answer shows it, nor does the keep.
func TestHandedOut(t *testing.T) {
	k := opens(t, made(t, 1000))
	want := pairs{"a": "1", "ab": "", "b": strings.Repeat("v", api.MaxValue)}
	for key, v := range want {
		puts(t, k, key, v)
	}
	for range 2 {
		first, second := k.Scan(nil, nil), k.Scan(nil, nil)
		v, _ := k.Get([]byte("b"))
		for i := range first {
			scribble(first[i].Key)
			if string(second[i].Key) == string(first[i].Key) || len(first[i].Value) > 0 && first[i].Value[0] == '#' {
				t.Fatal("shared:", i)
			}
			was := string(second[i].Value)
			scribble(first[i].Value)
			if string(second[i].Value) != was {
				t.Fatal("shared:", i)
			}
		}
		clear(append(first, keep.Pair{})[:cap(first)])
		if string(v) != want["b"] || len(second) != 3 {
			t.Fatalf("%q, %v", v, second)
		}
		scribble(v)
		if bytes.Contains(second[2].Value, []byte("#")) {
			t.Fatal("shared with Get's")
		}
		has(t, k, want)
		commits(t, k)
	}
}

// scribble writes all over a list, its spare room too.
func scribble(b []byte) {
	b = b[:cap(b)]
	for i := range b {
		b[i] = '#'
	}
}
