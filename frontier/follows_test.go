package frontier_test

import (
	"fmt"
	"math/rand"
	"slices"
	"testing"

	"rolodex/api"
	"rolodex/frontier"
)

// ranges answers the ranges of l's pieces between the cuts.
func ranges(t *testing.T, from int, l []api.Hash, cuts []int) []frontier.Range {
	t.Helper()
	var pieces []frontier.Range
	at := 0
	for _, c := range append(slices.Clone(cuts), len(l)) {
		r, e := frontier.Of(from+at, l[at:c])
		if e != api.OK {
			t.Fatal("from", from+at, "hashes:", c-at, "no range:", e)
		}
		pieces = append(pieces, r)
		at = c
	}
	return pieces
}

// together joins two neighbours, any, till one is left.
func together(t *testing.T, chance *rand.Rand, pieces []frontier.Range) frontier.Range {
	t.Helper()
	for len(pieces) > 1 {
		i := chance.Intn(len(pieces) - 1)
		r, e := frontier.Join(pieces[i], pieces[i+1])
		if e != api.OK {
			t.Fatal("not joined:", pieces[i], pieces[i+1], e)
		}
		pieces = slices.Replace(pieces, i, i+2, r)
	}
	return pieces[0]
}

// A list that is cut anywhere, as often as can be, in all ways.
func TestP152AllCutsOfSmallLists(t *testing.T) {
	chance := rand.New(rand.NewSource(157))
	for n := 1; n <= 10; n++ {
		for from := range 5 {
			l := plain(n)
			for set := range 1 << (n - 1) {
				var cuts []int
				for i := range n - 1 {
					if set>>i&1 == 1 {
						cuts = append(cuts, i+1)
					}
				}
				r := together(t, chance, ranges(t, from, l, cuts))
				wantRange(t, fmt.Sprint("from ", from, " cut at ", cuts), r, api.OK, rangeOf(from, l))
				if from == 0 {
					wantRoot(t, fmt.Sprint("cut at ", cuts), r, rootOf(l))
				}
			}
		}
	}
}

// Whichever way three are joined, it is the same, though their hashes are no list's.
func TestP152ThreeAreJoinedEitherWay(t *testing.T) {
	chance := rand.New(rand.NewSource(158))
	l := append(around(), 3, 4, 5, 6, 7, 8, 9, 10, 11, 12, 13, 14, 15)
	for range 20000 {
		var at []int
		for range 4 {
			at = append(at, l[chance.Intn(len(l))])
		}
		slices.Sort(at)
		a, b, c := anyRange(chance, at[0], at[1]), anyRange(chance, at[1], at[2]), anyRange(chance, at[2], at[3])
		ab, e := frontier.Join(a, b)
		bc, f := frontier.Join(b, c)
		if e != api.OK || f != api.OK {
			t.Fatal(at, e, f)
		}
		left, e := frontier.Join(ab, c)
		right, f := frontier.Join(a, bc)
		if e != api.OK || f != api.OK || !same(left, right) || !frontier.Formed(left) || left.From != at[0] || left.To != at[3] {
			t.Fatal(at, left, right, e, f)
		}
	}
}

// Long lists, from any place on, cut at random; some pieces have nothing.
func TestP152CutsOfLongLists(t *testing.T) {
	chance := rand.New(rand.NewSource(159))
	places := around()
	for range 400 {
		l := entries(chance.Intn(700))
		from := min(places[chance.Intn(len(places))], mostTo-len(l))
		var cuts []int
		for range chance.Intn(20) {
			cuts = append(cuts, chance.Intn(len(l)+1))
		}
		slices.Sort(cuts)
		pieces := ranges(t, from, l, cuts)
		r := together(t, chance, pieces)
		wantRange(t, fmt.Sprint("from ", from, " of ", len(l), " cut at ", cuts), r, api.OK, rangeOf(from, l))
		r = together(t, chance, ranges(t, 0, l, cuts))
		wantRoot(t, fmt.Sprint("of ", len(l), " cut at ", cuts), r, rootOf(l))
	}
}

// A list that grows one by one has its root at each number.
func TestP152OneByOne(t *testing.T) {
	l := entries(600)
	forwards, backwards := frontier.Range{}, frontier.Range{From: 600, To: 600}
	for i := range l {
		wantRoot(t, fmt.Sprint("the first ", i), forwards, rootOf(l[:i]))
		one, _ := frontier.Of(i, l[i:i+1])
		next, e := frontier.Join(forwards, one)
		wantRange(t, fmt.Sprint("one behind ", i), next, e, rangeOf(0, l[:i+1]))
		forwards = next
		at := 599 - i
		one, _ = frontier.Of(at, l[at:at+1])
		next, e = frontier.Join(one, backwards)
		wantRange(t, fmt.Sprint("one ahead, at ", at), next, e, rangeOf(at, l[at:]))
		backwards = next
	}
	wantRoot(t, "all", forwards, rootOf(l))
	wantRoot(t, "all, from the last one on", backwards, rootOf(l))
}

// A long list that is joined of two has the root that another program reckoned.
func TestP152RootOfMany(t *testing.T) {
	l := entries(70000)
	want := hashOf("339ecf3ae716405fdc28cef164e45a785cade0d5bc3e1400a7a4d70d0b2dec9b")
	for _, cut := range []int{0, 1, 2, 255, 4096, 32767, 32768, 65535, 65536, 65537, 69999, 70000} {
		pieces := ranges(t, 0, l, []int{cut})
		r, e := frontier.Join(pieces[0], pieces[1])
		if e != api.OK {
			t.Fatal(cut, e)
		}
		wantRoot(t, fmt.Sprint("cut at ", cut), r, want)
	}
}

// Each hash has its part in the root, and stands at its place.
func TestP152EachHashCounts(t *testing.T) {
	for n := 1; n <= 40; n++ {
		l := plain(n)
		was := rootOf(l)
		for i := range l {
			m := slices.Clone(l)
			m[i][31] ^= 1
			r, e := frontier.Of(0, m)
			h, f := frontier.Root(r)
			if e != api.OK || f != api.OK || h == was || h != rootOf(m) {
				t.Error("another hash at", i, "of", n, h, e, f)
			}
			if i == 0 {
				continue
			}
			m = slices.Clone(l)
			m[i-1], m[i] = m[i], m[i-1]
			r, _ = frontier.Of(0, m)
			if h, _ := frontier.Root(r); h == was || h != rootOf(m) {
				t.Error("two hashes the other way at", i, "of", n)
			}
		}
	}
}
