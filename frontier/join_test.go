package frontier_test

import (
	"fmt"
	"math/rand"
	"slices"
	"testing"

	"rolodex/api"
	"rolodex/frontier"
)

// wantJoined holds a Join to the model.
func wantJoined(t *testing.T, chance *rand.Rand, a, b frontier.Range) {
	t.Helper()
	name := fmt.Sprint(a.From, " to ", a.To, " and ", b.From, " to ", b.To)
	want, e := joinedOf(chance, a, b)
	if e != api.OK {
		t.Fatal(name, ": the test itself is wrong")
	}
	r, e := frontier.Join(a, b)
	wantRange(t, name, r, e, want)
}

func TestP151JoinWrittenOut(t *testing.T) {
	n := frontier.Node
	h := plain(9)
	for _, c := range []struct {
		from, mid, to int
		a, b, want    []api.Hash
	}{
		{0, 1, 2, h[:1], h[1:2], []api.Hash{n(h[0], h[1])}},
		{1, 2, 3, h[:1], h[1:2], h[:2]},
		{1, 2, 4, h[:1], h[1:2], h[:2]},
		{0, 2, 4, h[:1], h[1:2], []api.Hash{n(h[0], h[1])}},
		{2, 4, 6, h[:1], h[1:2], h[:2]},
		{0, 2, 3, h[:1], h[1:2], h[:2]},
		{0, 3, 4, h[:2], h[2:3], []api.Hash{n(h[0], n(h[1], h[2]))}},
		{0, 1, 4, h[:1], h[1:3], []api.Hash{n(n(h[0], h[1]), h[2])}},
		{3, 4, 6, h[:1], h[1:2], h[:2]},
		{5, 6, 8, h[:1], h[1:2], h[:2]},
		{0, 7, 8, h[:3], h[3:4], []api.Hash{n(h[0], n(h[1], n(h[2], h[3])))}},
		{1, 7, 8, h[:4], h[4:5], []api.Hash{h[0], h[1], n(h[2], n(h[3], h[4]))}},
		{3, 10, 12, h[:3], h[3:4], []api.Hash{h[0], h[1], n(h[2], h[3])}},
		{3, 10, 16, h[:3], h[3:5], []api.Hash{h[0], h[1], n(n(h[2], h[3]), h[4])}},
		{0, 10, 16, h[:2], h[2:4], []api.Hash{n(h[0], n(n(h[1], h[2]), h[3]))}},
		{1, 3, 6, h[:2], h[2:4], []api.Hash{h[0], n(h[1], h[2]), h[3]}},
		{0, 0, 1, nil, h[:1], h[:1]},
		{0, 1, 1, h[:1], nil, h[:1]},
		{6, 6, 6, nil, nil, nil},
		{0, 1 << 30, 1<<30 + 3, h[:1], h[1:3], h[:3]},
		{0, 1 << 29, 1 << 30, h[:1], h[1:2], []api.Hash{n(h[0], h[1])}},
		{1 << 29, 1 << 30, 3 << 29, h[:1], h[1:2], h[:2]},
		{1<<31 - 3, 1<<31 - 2, 1<<31 - 1, h[:1], h[1:2], h[:2]},
		{1<<31 - 4, 1<<31 - 3, 1<<31 - 1, h[:1], h[1:3], []api.Hash{n(h[0], h[1]), h[2]}},
	} {
		a := frontier.Range{From: c.from, To: c.mid, Hashes: c.a}
		b := frontier.Range{From: c.mid, To: c.to, Hashes: c.b}
		r, e := frontier.Join(a, b)
		wantRange(t, fmt.Sprint(c.from, " to ", c.mid, " to ", c.to), r, e, frontier.Range{From: c.from, To: c.to, Hashes: c.want})
	}
}

// All ranges of small numbers, of hashes that are no list's.
func TestP151JoinOfSmallRanges(t *testing.T) {
	chance := rand.New(rand.NewSource(151))
	for from := range 41 {
		for mid := from; mid <= 41; mid++ {
			for to := mid; to <= 41; to++ {
				wantJoined(t, chance, anyRange(chance, from, mid), anyRange(chance, mid, to))
			}
		}
	}
}

func TestP151JoinOfGreatRanges(t *testing.T) {
	chance := rand.New(rand.NewSource(152))
	l := around()
	slices.Sort(l)
	for range 30000 {
		three := []int{l[chance.Intn(len(l))], l[chance.Intn(len(l))], l[chance.Intn(len(l))]}
		slices.Sort(three)
		wantJoined(t, chance, anyRange(chance, three[0], three[1]), anyRange(chance, three[1], three[2]))
	}
	for _, mid := range l {
		wantJoined(t, chance, anyRange(chance, 0, mid), anyRange(chance, mid, mostTo))
		wantJoined(t, chance, anyRange(chance, 0, mid), anyRange(chance, mid, mid))
		wantJoined(t, chance, anyRange(chance, mid, mid), anyRange(chance, mid, mostTo))
		wantJoined(t, chance, anyRange(chance, mid/2, mid), anyRange(chance, mid, mostTo))
		wantJoined(t, chance, anyRange(chance, 0, mid/2), anyRange(chance, mid/2, mid))
	}
}

// Hashes are made one by their places, not by what they are.
func TestP151JoinOfSameHashes(t *testing.T) {
	chance := rand.New(rand.NewSource(153))
	for from := range 20 {
		for mid := from; mid <= 20; mid++ {
			for to := mid; to <= 20; to++ {
				a, b := anyRange(chance, from, mid), anyRange(chance, mid, to)
				for _, h := range []api.Hash{{}, countedHash(5)} {
					for i := range a.Hashes {
						a.Hashes[i] = h
					}
					for i := range b.Hashes {
						b.Hashes[i] = h
					}
					wantJoined(t, chance, a, b)
				}
			}
		}
	}
}

// Only ranges of which one goes on where the other one ends are joined.
func TestP151JoinOfOthers(t *testing.T) {
	chance := rand.New(rand.NewSource(154))
	var l []frontier.Range
	for from := range 11 {
		for to := from; to <= 11; to++ {
			l = append(l, anyRange(chance, from, to))
		}
	}
	l = append(l, anyRange(chance, 0, mostTo), anyRange(chance, mostTo, mostTo), anyRange(chance, 11, mostTo), anyRange(chance, 1<<30, mostTo))
	for _, a := range l {
		for _, b := range l {
			if a.To == b.From {
				wantJoined(t, chance, a, b)
			} else {
				wantNoJoin(t, fmt.Sprint(a.From, " to ", a.To, " and ", b.From, " to ", b.To), a, b)
			}
		}
	}
}

// One hash more, or one fewer, in one of both, and in the other one the other way.
func TestP151JoinOfUnformed(t *testing.T) {
	chance := rand.New(rand.NewSource(155))
	for from := range 14 {
		for mid := from; mid <= 14; mid++ {
			for to := mid; to <= 14; to++ {
				a, b := anyRange(chance, from, mid), anyRange(chance, mid, to)
				name := fmt.Sprint(from, " to ", mid, " to ", to)
				more, less := a, a
				more.Hashes = append(slices.Clone(a.Hashes), anyHash(chance))
				wantNoJoin(t, name+", the first one has more", more, b)
				if len(a.Hashes) > 0 {
					less.Hashes = a.Hashes[1:]
					wantNoJoin(t, name+", the first one has fewer", less, b)
				}
				other := b
				other.Hashes = append(slices.Clone(b.Hashes), anyHash(chance))
				wantNoJoin(t, name+", the other one has more", a, other)
				wantNoJoin(t, name+", the other one has more, the first one fewer or not", less, other)
				if len(b.Hashes) > 0 {
					other.Hashes = b.Hashes[1:]
					wantNoJoin(t, name+", the other one has fewer", a, other)
					wantNoJoin(t, name+", the other one has fewer, the first one more", more, other)
				}
			}
		}
	}
}

// One is no range, though the other one is, and they would go on from one another.
func TestP151JoinWithNoRange(t *testing.T) {
	chance := rand.New(rand.NewSource(156))
	for _, w := range wrong() {
		for n := range 4 {
			bad := frontier.Range{From: w[0], To: w[1], Hashes: plain(n)}
			if w[0] >= 0 && w[0] <= mostTo {
				wantNoJoin(t, fmt.Sprint("up to ", w), anyRange(chance, 0, w[0]), bad)
				wantNoJoin(t, fmt.Sprint("none up to ", w), anyRange(chance, w[0], w[0]), bad)
			}
			if w[1] >= 0 && w[1] <= mostTo {
				wantNoJoin(t, fmt.Sprint("on from ", w), bad, anyRange(chance, w[1], mostTo))
				wantNoJoin(t, fmt.Sprint("none on from ", w), bad, anyRange(chance, w[1], w[1]))
			}
			if w[0] > w[1] && w[1] >= 0 && w[0] <= mostTo {
				wantNoJoin(t, fmt.Sprint("there and back: ", w), anyRange(chance, w[1], w[0]), bad)
			}
		}
	}
}
