package trail_test

import (
	"encoding/hex"
	"math/rand"
	"slices"
	"testing"

	"rolodex/api"
	"rolodex/hash"
	"rolodex/trail"
)

const mostTo = 1<<31 - 1

func hashOf(digits string) api.Hash {
	b, e := hex.DecodeString(digits)
	if e != nil {
		panic(e)
	}
	return api.Hash(b)
}

func hashesOf(digits ...string) []api.Hash {
	var l []api.Hash
	for _, d := range digits {
		l = append(l, hashOf(d))
	}
	return l
}

// countedHash has 32 bytes that rise from the first one on.
func countedHash(first byte) api.Hash {
	var h api.Hash
	for i := range h {
		h[i] = first + byte(i)
	}
	return h
}

// noneRoot is the hash of no bytes: the root of a list of none.
func noneRoot() api.Hash {
	return hashOf("e3b0c44298fc1c149afbf4c8996fb92427ae41e4649b934ca495991b7852b855")
}

// entries answers the hashes of n entries: their numbers, each in four bytes.
func entries(n int) []api.Hash {
	var l []api.Hash
	for i := range n {
		l = append(l, hash.Sum([]byte{0, byte(i >> 24), byte(i >> 16), byte(i >> 8), byte(i)}))
	}
	return l
}

// plain answers n different hashes that are no entries'.
func plain(n int) []api.Hash {
	l := make([]api.Hash, n)
	for i := range l {
		l[i] = api.Hash{byte(i >> 16), byte(i >> 8), byte(i), 9}
	}
	return l
}

// anyHashes answers n hashes that are left to chance.
func anyHashes(chance *rand.Rand, n int) []api.Hash {
	l := make([]api.Hash, n)
	for i := range l {
		chance.Read(l[i][:])
	}
	return l
}

func nodeOf(a, b api.Hash) api.Hash {
	return hash.Sum(slices.Concat([]byte{1}, a[:], b[:]))
}

// rootOf has the words of chapter 15.
func rootOf(l []api.Hash) api.Hash {
	if len(l) == 0 {
		return hash.Sum(nil)
	}
	if len(l) == 1 {
		return l[0]
	}
	k := powerBelow(len(l))
	return nodeOf(rootOf(l[:k]), rootOf(l[k:]))
}

// powerBelow answers the greatest power of two below n.
func powerBelow(n int) int {
	k := 1
	for 2*k < n {
		k = 2 * k
	}
	return k
}

// piece is the places from one on, up to ahead of another one.
type piece struct{ from, to int }

// piecesOf answers a range's segments: it asks all powers of two, the greatest one first. It knows
// no last place.
func piecesOf(from, to int) []piece {
	var l []piece
	for from >= 0 && from < to {
		size := 1 << 40
		for from%size != 0 || size > to-from {
			size = size / 2
		}
		l = append(l, piece{from, from + size})
		from += size
	}
	return l
}

// rangeOf answers the hashes of l's range.
func rangeOf(l []api.Hash, from, to int) []api.Hash {
	var hashes []api.Hash
	for _, p := range piecesOf(from, to) {
		hashes = append(hashes, rootOf(l[p.from:p.to]))
	}
	return hashes
}

// entryOf answers what Entry should answer.
func entryOf(l []api.Hash, i int) (trail.Trail, api.Errno) {
	if i < 0 || i >= len(l) {
		return trail.Trail{}, api.ErrRange
	}
	return trail.Trail{Ahead: rangeOf(l, 0, i), Behind: rangeOf(l, i+1, len(l))}, api.OK
}

// growthOf answers what Growth should answer.
func growthOf(l []api.Hash, m int) (trail.Trail, api.Errno) {
	if m < 0 || m > len(l) {
		return trail.Trail{}, api.ErrRange
	}
	return trail.Trail{Ahead: rangeOf(l, 0, m), Behind: rangeOf(l, m, len(l))}, api.OK
}

// tree has hashes that stand for pieces of a list: all that is known of it.
type tree map[piece]api.Hash

// lay puts the hashes of a range's segments, if there are as many of them.
func (known tree) lay(from, to int, hashes []api.Hash) bool {
	pieces := piecesOf(from, to)
	if len(pieces) != len(hashes) {
		return false
	}
	for i, p := range pieces {
		known[p] = hashes[i]
	}
	return true
}

// root goes from a list's root down, by the words of chapter 15, till it comes to what is known.
func (known tree) root(from, to int) api.Hash {
	if from == to {
		return hash.Sum(nil)
	}
	if h, ok := known[piece{from, to}]; ok {
		return h
	}
	if to-from == 1 {
		panic("the test itself is wrong: nothing is known of a place")
	}
	k := powerBelow(to - from)
	return nodeOf(known.root(from, from+k), known.root(from+k, to))
}

// leadOf answers the root to which a trail of an entry leads. It knows no last place.
func leadOf(t trail.Trail, i, n int, h api.Hash) (api.Hash, bool) {
	known := tree{}
	if i < 0 || i >= n || !known.lay(0, i, t.Ahead) || !known.lay(i, i+1, []api.Hash{h}) || !known.lay(i+1, n, t.Behind) {
		return api.Hash{}, false
	}
	return known.root(0, n), true
}

// leadsOf answers both roots to which a trail of the first m leads. It knows no last place.
func leadsOf(t trail.Trail, m, n int) (api.Hash, api.Hash, bool) {
	known := tree{}
	if m < 0 || m > n || !known.lay(0, m, t.Ahead) || !known.lay(m, n, t.Behind) {
		return api.Hash{}, api.Hash{}, false
	}
	return known.root(0, m), known.root(0, n), true
}

// isEntryOf answers what IsEntry should answer.
func isEntryOf(t trail.Trail, i, n int, h, root api.Hash) bool {
	if n > mostTo {
		return false
	}
	lead, ok := leadOf(t, i, n, h)
	return ok && lead == root
}

// isGrowthOf answers what IsGrowth should answer.
func isGrowthOf(t trail.Trail, m, n int, old, root api.Hash) bool {
	if n > mostTo {
		return false
	}
	elder, lead, ok := leadsOf(t, m, n)
	return ok && elder == old && lead == root
}

// anyEntry answers a trail for the i-th of n, of hashes that are left to chance.
func anyEntry(chance *rand.Rand, i, n int) trail.Trail {
	return trail.Trail{Ahead: anyHashes(chance, len(piecesOf(0, i))), Behind: anyHashes(chance, len(piecesOf(i+1, n)))}
}

// anyGrowth answers a trail for the first m of n, of hashes that are left to chance.
func anyGrowth(chance *rand.Rand, m, n int) trail.Trail {
	return trail.Trail{Ahead: anyHashes(chance, len(piecesOf(0, m))), Behind: anyHashes(chance, len(piecesOf(m, n)))}
}

// around answers numbers from 0 to the last place which powers of two aren't far from.
func around() []int {
	var l []int
	for size := 1; size <= 1<<31; size = 2 * size {
		for _, n := range []int{size - 2, size - 1, size, size + 1, size + size/2} {
			if n >= 0 && n <= mostTo && !slices.Contains(l, n) {
				l = append(l, n)
			}
		}
	}
	return l
}

func same(a, b trail.Trail) bool {
	return slices.Equal(a.Ahead, b.Ahead) && slices.Equal(a.Behind, b.Behind)
}

func cloned(t trail.Trail) trail.Trail {
	return trail.Trail{Ahead: slices.Clone(t.Ahead), Behind: slices.Clone(t.Behind)}
}

// turned answers h with one bit turned.
func turned(h api.Hash) api.Hash {
	h[31] ^= 1
	return h
}

// wantTrail holds an answer to a trail.
func wantTrail(t *testing.T, name string, x trail.Trail, e api.Errno, want trail.Trail) {
	t.Helper()
	if e != api.OK || !same(x, want) {
		t.Errorf("%s: %x, %d, want %x", name, x, e, want)
	}
}

// wantNoTrail holds an answer to its error, with nothing beside it.
func wantNoTrail(t *testing.T, name string, x trail.Trail, e api.Errno) {
	t.Helper()
	if e != api.ErrRange || len(x.Ahead) != 0 || len(x.Behind) != 0 {
		t.Errorf("%s: %x, %d", name, x, e)
	}
}

// wantEntry holds IsEntry to what is wanted, the test's own words too.
func wantEntry(t *testing.T, name string, x trail.Trail, i, n int, h, root api.Hash, want bool) {
	t.Helper()
	if isEntryOf(x, i, n, h, root) != want {
		t.Fatal(name, ": the test itself is wrong:", i, "of", n)
	}
	if trail.IsEntry(x, i, n, h, root) != want {
		t.Error(name, ": IsEntry isn't", want, "of", i, "of", n)
	}
}

// wantGrowth holds IsGrowth to what is wanted, the test's own words too.
func wantGrowth(t *testing.T, name string, x trail.Trail, m, n int, old, root api.Hash, want bool) {
	t.Helper()
	if isGrowthOf(x, m, n, old, root) != want {
		t.Fatal(name, ": the test itself is wrong:", m, "of", n)
	}
	if trail.IsGrowth(x, m, n, old, root) != want {
		t.Error(name, ": IsGrowth isn't", want, "of", m, "of", n)
	}
}
