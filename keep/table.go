package keep

import (
	"bytes"

	"pledge/api"
	"pledge/wire"
)

// How pairs lie on pages: one on each, as in a hashed table. A key's bytes tell its home; it lies there, or,
// where other keys came first, on the first page behind it that was free. No page is free between a key and its home:
// so a key is found, or known not to be there, by a few pages.
const noPage = -1

// The hash FNV-1a, of 32 bits: it spreads keys that differ in a byte or two.
const (
	hashStart = 2166136261
	hashPrime = 16777619
)

// home is the page to which a key's bytes point.
func home(key []byte) int {
	h := uint32(hashStart)
	for _, c := range key {
		h = (h ^ uint32(c)) * hashPrime
	}
	return int(h % api.MaxPages)
}

// behind is the page behind p; behind the last one the first.
func behind(p int) int { return (p + 1) % api.MaxPages }

// steps is how many pages it is from one on to another.
func steps(from, to int) int { return (to - from + api.MaxPages) % api.MaxPages }

// find is the page on which a key lies; false: it is not there, and this is the free page on which it would lie,
// or noPage, if there is none or it can be no key.
func (k *Keep) find(key []byte) (int, bool) {
	if !isKey(key) {
		return noPage, false
	}
	p := home(key)
	for range api.MaxPages {
		b, taken := k.store.Read(p)
		if !taken {
			return p, false
		}
		if pair, ok := readPair(b); ok && bytes.Equal(pair.Key, key) {
			return p, true
		}
		p = behind(p)
	}
	return noPage, false
}

// clear takes the pair of page p away, and moves up those behind it that would be cut off from their homes.
// Pages and bytes are those that the store had already: it refuses none of them.
func (k *Keep) clear(p int) {
	k.store.Drop(p)
	free := p
	for p = behind(p); ; p = behind(p) {
		b, taken := k.store.Read(p)
		if !taken {
			return
		}
		pair, ok := readPair(b)
		if !ok || steps(home(pair.Key), p) < steps(free, p) {
			continue
		}
		k.store.Write(free, b)
		k.store.Drop(p)
		free = p
	}
}

// pairOn is the pair of page p; false: it has none.
func (k *Keep) pairOn(p int) (Pair, bool) {
	b, _ := k.store.Read(p)
	return readPair(b)
}

func isKey(key []byte) bool { return len(key) >= 1 && len(key) <= api.MaxKey }

// pairBytes is a pair as a page's bytes: how many bytes the key has, those, and the value's.
func pairBytes(key, value []byte) []byte {
	b := wire.Put(nil, int64(len(key)))
	b = append(b, key...)
	return append(b, value...)
}

// readPair is the pair of a page's bytes; false: they are none. Key and value are copies: they share no memory.
func readPair(b []byte) (Pair, bool) {
	r := wire.NewReader(b)
	size := int(r.Num(1, api.MaxKey))
	if r.Err() != nil || r.Left() < size || r.Left()-size > api.MaxValue {
		return Pair{}, false
	}
	rest := b[r.At():]
	return Pair{Key: bytes.Clone(rest[:size]), Value: bytes.Clone(rest[size:])}, true
}
