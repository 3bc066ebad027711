package frontier_test

import (
	"math"
	"math/rand"
	"slices"
	"testing"

	"rolodex/api"
	"rolodex/frontier"
)

// odd answers numbers most of which are at some edge.
func odd() []int {
	return []int{
		math.MinInt, -1 << 32, -1 << 31, -2, -1, 0, 1, 2, 3, 4, 5, 6, 7, 8, 12, 1 << 30, mostTo - 8, mostTo - 2, mostTo - 1, mostTo,
		1 << 31, 1<<31 + 1, 1<<32 - 1, 1 << 32, 1<<32 + 8, math.MaxInt - 1, math.MaxInt,
	}
}

// Each call ends, and answers as it should, whatever it is handed.
func TestP151OfAnything(t *testing.T) {
	chance := rand.New(rand.NewSource(160))
	var l []frontier.Range
	for _, from := range odd() {
		for _, to := range odd() {
			wantSegments(t, from, to, segmentsOf(from, to))
			for _, n := range []int{0, 1, 2, 3, len(segmentsOf(from, to)), 70} {
				l = append(l, frontier.Range{From: from, To: to, Hashes: plain(n)})
			}
		}
		for n := range 5 {
			want, e := frontier.Range{}, api.ErrArg
			if from >= 0 && from <= mostTo && from+n <= mostTo {
				want, e = rangeOf(from, plain(n)), api.OK
			}
			if r, f := frontier.Of(from, plain(n)); f != e || !same(r, want) {
				t.Error("Of from", from, "hashes:", n, r, f)
			}
		}
	}
	for _, r := range l {
		wantAsModel(t, chance, r, l[chance.Intn(len(l))])
		wantAsModel(t, chance, r, anyRange(chance, max(0, min(r.To, mostTo)), mostTo))
		wantAsModel(t, chance, anyRange(chance, 0, max(0, min(r.From, mostTo))), r)
	}
}

// wantAsModel holds what hangs on ranges to the model.
func wantAsModel(t *testing.T, chance *rand.Rand, a, b frontier.Range) {
	t.Helper()
	if frontier.Formed(a) != isFormed(a) {
		t.Fatal("Formed of", a)
	}
	want, e := joinedOf(chance, a, b)
	if r, f := frontier.Join(a, b); f != e || !same(r, want) {
		t.Fatal("Join of", a, b, ":", r, f, "want", want, e)
	}
	root, e := wholeOf(a)
	if h, f := frontier.Root(a); f != e || h != root {
		t.Fatal("Root of", a, ":", h, f)
	}
}

// Ranges of any numbers, of which a good part can be joined.
func TestP151AtRandom(t *testing.T) {
	chance := rand.New(rand.NewSource(161))
	joined := 0
	for range 40000 {
		bits := 1 + chance.Intn(31)
		at := []int{chance.Intn(1 << bits), chance.Intn(1 << bits), chance.Intn(1 << bits)}
		slices.Sort(at)
		if chance.Intn(4) == 0 {
			at[0] = 0
		}
		a, b := anyRange(chance, at[0], at[1]), anyRange(chance, at[1], at[2])
		wantSegments(t, at[0], at[2], segmentsOf(at[0], at[2]))
		if chance.Intn(3) == 0 {
			change(chance, &a)
		}
		if chance.Intn(3) == 0 {
			change(chance, &b)
		}
		wantAsModel(t, chance, a, b)
		if _, e := frontier.Join(a, b); e == api.OK {
			joined++
		}
	}
	if joined < 15000 || joined > 30000 {
		t.Error("the test itself is wrong: joined:", joined)
	}
}

// change changes one thing of a range.
func change(chance *rand.Rand, r *frontier.Range) {
	by := 1 << chance.Intn(33)
	switch chance.Intn(6) {
	case 0:
		r.From += by
	case 1:
		r.From -= by
	case 2:
		r.To += by
	case 3:
		r.To -= by
	case 4:
		r.Hashes = append(slices.Clone(r.Hashes), anyHash(chance))
	case 5:
		r.Hashes = r.Hashes[:len(r.Hashes)-min(1, len(r.Hashes))]
	}
}
