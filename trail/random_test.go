package trail_test

import (
	"math"
	"math/rand"
	"slices"
	"testing"

	"rolodex/api"
	"rolodex/trail"
)

// odd answers numbers most of which are at some edge.
func odd() []int {
	return []int{
		math.MinInt, -1 << 32, -1 << 31, -2, -1, 0, 1, 2, 3, 4, 5, 7, 8, 12, 1 << 30, mostTo - 8, mostTo - 1, mostTo,
		1 << 31, 1<<31 + 1, 1<<32 - 1, 1 << 32, 1<<32 + 8, 1 << 40, math.MaxInt - 1, math.MaxInt,
	}
}

// fit answers how many hashes a trail needs, at most some seventy.
func fit(from, to int) int {
	if from < 0 || to > 1<<40 {
		return 0
	}
	return len(piecesOf(from, to))
}

// Each call ends, and answers as it should, whatever it is handed.
func TestP161OfAnything(t *testing.T) {
	for _, n := range odd() {
		wantAnswers(t, nil, n)
		wantAnswers(t, plain(8), n)
		for _, i := range odd() {
			for _, ahead := range []int{0, 1, 2, fit(0, i), 70} {
				for _, behind := range []int{0, 1, 3, fit(i, n), fit(i+1, n), 70} {
					x := trail.Trail{Ahead: plain(ahead), Behind: plain(behind)}
					for _, h := range []api.Hash{{}, plain(1)[0], noneRoot()} {
						wantAsModel(t, x, i, n, h)
					}
				}
			}
		}
	}
}

// wantAsModel holds IsEntry and IsGrowth to the model, at a root that may be anything, and at the
// one to which the trail leads if there is one.
func wantAsModel(t *testing.T, x trail.Trail, i, n int, h api.Hash) {
	t.Helper()
	roots := []api.Hash{h, {}}
	if n <= 1<<40 {
		lead, _ := leadOf(x, i, n, h)
		elder, other, _ := leadsOf(x, i, n)
		roots = append(roots, lead, elder, other)
	}
	for _, root := range roots {
		var entry, growth bool
		if n <= mostTo {
			entry, growth = isEntryOf(x, i, n, h, root), isGrowthOf(x, i, n, roots[len(roots)-2], root)
		}
		if trail.IsEntry(x, i, n, h, root) != entry {
			t.Fatal("IsEntry of", x, i, n, h, root, "isn't", entry)
		}
		if trail.IsGrowth(x, i, n, roots[len(roots)-2], root) != growth {
			t.Fatal("IsGrowth of", x, i, n, roots[len(roots)-2], root, "isn't", growth)
		}
	}
}

// Trails of any numbers, a good part of which are right.
func TestP161AtRandom(t *testing.T) {
	chance := rand.New(rand.NewSource(172))
	entries, growths := 0, 0
	for range 10000 {
		bits := 1 + chance.Intn(31)
		n := min(mostTo, 1+chance.Intn(1<<bits))
		i := chance.Intn(n)
		x, h := anyEntry(chance, i, n), anyHashes(chance, 1)[0]
		root, _ := leadOf(x, i, n, h)
		x, i, n, h, root = changed(chance, x, i, n, h, root)
		want := isEntryOf(x, i, n, h, root)
		if trail.IsEntry(x, i, n, h, root) != want {
			t.Fatal("IsEntry of", x, i, n, h, root, "isn't", want)
		}
		if want {
			entries++
		}
		m := chance.Intn(max(n, 0) + 1)
		n = max(n, m)
		x = anyGrowth(chance, m, n)
		old, root, _ := leadsOf(x, m, n)
		x, m, n, old, root = changed(chance, x, m, n, old, root)
		want = isGrowthOf(x, m, n, old, root)
		if trail.IsGrowth(x, m, n, old, root) != want {
			t.Fatal("IsGrowth of", x, m, n, old, root, "isn't", want)
		}
		if want {
			growths++
		}
	}
	if entries < 3500 || entries > 8500 || growths < 3500 || growths > 8500 {
		t.Error("the test itself is wrong: right ones:", entries, growths)
	}
}

// changed answers what it is handed, half of the time with one thing changed.
func changed(chance *rand.Rand, x trail.Trail, i, n int, a, b api.Hash) (trail.Trail, int, int, api.Hash, api.Hash) {
	by := 1 << chance.Intn(33)
	switch chance.Intn(16) {
	case 0:
		i += by
	case 1:
		i -= by
	case 2:
		n += by
	case 3:
		n -= by
	case 4:
		a[chance.Intn(32)] ^= 1 << chance.Intn(8)
	case 5:
		b[chance.Intn(32)] ^= 1 << chance.Intn(8)
	case 6:
		x.Ahead = append(slices.Clone(x.Ahead), anyHashes(chance, 1)...)
	case 7:
		x.Behind = append(slices.Clone(x.Behind), anyHashes(chance, 1)...)
	}
	return x, i, n, a, b
}
