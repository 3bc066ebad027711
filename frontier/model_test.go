package frontier_test

import (
	"encoding/hex"
	"math/rand"
	"slices"
	"testing"

	"rolodex/api"
	"rolodex/frontier"
	"rolodex/hash"
)

const mostTo = 1<<31 - 1

func hashOf(digits string) api.Hash {
	b, e := hex.DecodeString(digits)
	if e != nil {
		panic(e)
	}
	return api.Hash(b)
}

func hashesOf(digits ...string) []api.Hash {
	var l []api.Hash
	for _, d := range digits {
		l = append(l, hashOf(d))
	}
	return l
}

// counted answers n bytes that go from 0 to 250 again and again.
func counted(n int) []byte {
	b := make([]byte, n)
	for i := range b {
		b[i] = byte(i % 251)
	}
	return b
}

// countedHash has 32 bytes that rise from the first one on.
func countedHash(first byte) api.Hash {
	var h api.Hash
	for i := range h {
		h[i] = first + byte(i)
	}
	return h
}

// entries answers the hashes of n entries: their numbers, each in four bytes.
func entries(n int) []api.Hash {
	var l []api.Hash
	for i := range n {
		l = append(l, hash.Sum([]byte{0, byte(i >> 24), byte(i >> 16), byte(i >> 8), byte(i)}))
	}
	return l
}

// plain answers n different hashes that are no entries'.
func plain(n int) []api.Hash {
	l := make([]api.Hash, n)
	for i := range l {
		l[i] = api.Hash{byte(i >> 16), byte(i >> 8), byte(i), 9}
	}
	return l
}

func nodeOf(a, b api.Hash) api.Hash {
	return hash.Sum(slices.Concat([]byte{1}, a[:], b[:]))
}

// rootOf has the words of the chapter.
func rootOf(l []api.Hash) api.Hash {
	if len(l) == 0 {
		return hash.Sum(nil)
	}
	if len(l) == 1 {
		return l[0]
	}
	k := 1
	for 2*k < len(l) {
		k = 2 * k
	}
	return nodeOf(rootOf(l[:k]), rootOf(l[k:]))
}

func isRange(from, to int) bool {
	return from >= 0 && from <= mostTo && to >= 0 && to <= mostTo && from <= to
}

// segmentsOf asks all powers of two, the greatest one first.
func segmentsOf(from, to int) []int {
	var l []int
	for isRange(from, to) && from < to {
		size := 1 << 31
		for from%size != 0 || size > to-from {
			size = size / 2
		}
		l = append(l, size)
		from += size
	}
	return l
}

func isFormed(r frontier.Range) bool {
	return isRange(r.From, r.To) && len(r.Hashes) == len(segmentsOf(r.From, r.To))
}

// rangeOf answers the range of l's hashes, if it is one.
func rangeOf(from int, l []api.Hash) frontier.Range {
	r := frontier.Range{From: from, To: from + len(l)}
	at := 0
	for _, size := range segmentsOf(from, from+len(l)) {
		r.Hashes = append(r.Hashes, rootOf(l[at:at+size]))
		at += size
	}
	return r
}

// placed is a segment that knows where it begins.
type placed struct {
	at, size int
	hash     api.Hash
}

// placedOf answers a formed range's segments.
func placedOf(r frontier.Range) []placed {
	var l []placed
	at := r.From
	for i, size := range segmentsOf(r.From, r.To) {
		l = append(l, placed{at, size, r.Hashes[i]})
		at += size
	}
	return l
}

// pairs answers where two stand side by side that can be made one.
func pairs(l []placed) []int {
	var found []int
	for i := 0; i+1 < len(l); i++ {
		if l[i].size == l[i+1].size && l[i].at%(2*l[i].size) == 0 {
			found = append(found, i)
		}
	}
	return found
}

// joinedOf answers what Join should answer. Which two are made one first is left to chance.
func joinedOf(chance *rand.Rand, a, b frontier.Range) (frontier.Range, api.Errno) {
	if !isFormed(a) || !isFormed(b) || a.To != b.From {
		return frontier.Range{}, api.ErrArg
	}
	l := append(placedOf(a), placedOf(b)...)
	for found := pairs(l); len(found) > 0; found = pairs(l) {
		i := found[chance.Intn(len(found))]
		one := placed{l[i].at, 2 * l[i].size, nodeOf(l[i].hash, l[i+1].hash)}
		l = slices.Replace(l, i, i+2, one)
	}
	r := frontier.Range{From: a.From, To: b.To}
	for _, p := range l {
		r.Hashes = append(r.Hashes, p.hash)
	}
	return r, api.OK
}

// wholeOf answers what Root should answer.
func wholeOf(r frontier.Range) (api.Hash, api.Errno) {
	if !isFormed(r) || r.From != 0 {
		return api.Hash{}, api.ErrArg
	}
	l := slices.Clone(r.Hashes)
	for len(l) > 1 {
		n := len(l)
		l = append(l[:n-2], nodeOf(l[n-2], l[n-1]))
	}
	if len(l) == 0 {
		return hash.Sum(nil), api.OK
	}
	return l[0], api.OK
}

// anyRange answers a formed range whose hashes are any.
func anyRange(chance *rand.Rand, from, to int) frontier.Range {
	r := frontier.Range{From: from, To: to}
	for range segmentsOf(from, to) {
		r.Hashes = append(r.Hashes, anyHash(chance))
	}
	return r
}

func anyHash(chance *rand.Rand) api.Hash {
	var h api.Hash
	chance.Read(h[:])
	return h
}

func same(a, b frontier.Range) bool {
	return a.From == b.From && a.To == b.To && slices.Equal(a.Hashes, b.Hashes)
}

func isZero(r frontier.Range) bool {
	return r.From == 0 && r.To == 0 && len(r.Hashes) == 0
}

// wantSegments holds Segments to what is wanted, the test's own words too.
func wantSegments(t *testing.T, from, to int, want []int) {
	t.Helper()
	if l := frontier.Segments(from, to); !slices.Equal(l, want) {
		t.Errorf("Segments(%d, %d): %v, want %v", from, to, l, want)
	}
	if !slices.Equal(segmentsOf(from, to), want) {
		t.Errorf("Segments(%d, %d): the test itself is wrong", from, to)
	}
}

// wantRange holds an answer to a range that is formed.
func wantRange(t *testing.T, name string, r frontier.Range, e api.Errno, want frontier.Range) {
	t.Helper()
	if e != api.OK || !same(r, want) {
		t.Errorf("%s: %v, %d, want %v", name, r, e, want)
	}
	if !frontier.Formed(r) {
		t.Errorf("%s: what is answered isn't formed", name)
	}
}

// wantNoJoin holds a Join to its error, with nothing beside it.
func wantNoJoin(t *testing.T, name string, a, b frontier.Range) {
	t.Helper()
	if r, e := frontier.Join(a, b); e != api.ErrArg || !isZero(r) {
		t.Errorf("%s: %v, %d", name, r, e)
	}
}

// wantNoRoot holds a Root to its error, with nothing beside it.
func wantNoRoot(t *testing.T, name string, r frontier.Range) {
	t.Helper()
	if h, e := frontier.Root(r); e != api.ErrArg || h != (api.Hash{}) {
		t.Errorf("%s: %x, %d", name, h, e)
	}
}

// wantRoot holds a Root to a hash.
func wantRoot(t *testing.T, name string, r frontier.Range, want api.Hash) {
	t.Helper()
	if h, e := frontier.Root(r); e != api.OK || h != want {
		t.Errorf("%s: %x, %d, want %x", name, h, e, want)
	}
}
