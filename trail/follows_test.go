package trail_test

import (
	"fmt"
	"math/rand"
	"slices"
	"testing"

	"rolodex/api"
	"rolodex/trail"
)

// wantToldRight holds what is told of all places of l to be right, by the model's roots.
func wantToldRight(t *testing.T, l []api.Hash, places []int) {
	t.Helper()
	root := rootOf(l)
	for _, i := range places {
		x, e := trail.Growth(l, i)
		if e != api.OK || !trail.IsGrowth(x, i, len(l), rootOf(l[:i]), root) {
			t.Error("the first", i, "of", len(l), "aren't right:", e)
		}
		if i == len(l) {
			continue
		}
		x, e = trail.Entry(l, i)
		if e != api.OK || !trail.IsEntry(x, i, len(l), l[i], root) {
			t.Error("entry", i, "of", len(l), "isn't right:", e)
		}
	}
}

func TestP162ToldOfSmallLists(t *testing.T) {
	all := plain(70)
	for n := range all {
		var places []int
		for i := range n + 1 {
			places = append(places, i)
		}
		wantToldRight(t, all[:n], places)
	}
}

func TestP162ToldOfLongLists(t *testing.T) {
	chance := rand.New(rand.NewSource(173))
	for range 30 {
		l := anyHashes(chance, 1+chance.Intn(1000))
		places := []int{0, len(l), chance.Intn(len(l)), chance.Intn(len(l)), len(l) - 1}
		wantToldRight(t, l, places)
	}
	for _, n := range []int{4095, 4096, 4097, 70000} {
		wantToldRight(t, entries(n), []int{0, 1, 2047, 2048, 4094, n / 2, n - 1, n})
	}
}

// A list that grows one by one: what is told of it at each number is right of its roots at that
// number alone, and of that entry alone.
func TestP162GrowingOneByOne(t *testing.T) {
	l := entries(28)
	var roots []api.Hash
	for n := range len(l) + 1 {
		roots = append(roots, rootOf(l[:n]))
	}
	for n := range roots {
		for m := range n + 1 {
			x, e := trail.Growth(l[:n], m)
			if e != api.OK {
				t.Fatal(m, n, e)
			}
			for k := range roots {
				wantGrowth(t, "another number of first ones", x, m, n, roots[k], roots[n], k == m)
				wantGrowth(t, "another number of all", x, m, n, roots[m], roots[k], k == n)
			}
			if m == n {
				continue
			}
			x, e = trail.Entry(l[:n], m)
			if e != api.OK {
				t.Fatal(m, n, e)
			}
			for k := range l {
				wantEntry(t, "another entry", x, m, n, l[k], roots[n], k == m)
			}
			for k := range roots {
				wantEntry(t, "another number of all", x, m, n, l[m], roots[k], k == n)
			}
		}
	}
}

// nodesOf answers the hashes of all that stands in a list's tree, and some that never do.
func nodesOf(l []api.Hash) []api.Hash {
	pool := []api.Hash{{}, noneRoot()}
	for from := range l {
		for to := from + 1; to <= len(l); to++ {
			if h := rootOf(l[from:to]); inTree(from, to, len(l)) && !slices.Contains(pool, h) {
				pool = append(pool, h)
			}
		}
	}
	return pool
}

// inTree tells whether the tree of a list of n hashes has the places' root.
func inTree(from, to, n int) bool {
	if from == 0 && to == n {
		return true
	}
	if n < 2 || from < 0 || to > n {
		return false
	}
	k := powerBelow(n)
	if to <= k {
		return inTree(from, to, k)
	}
	return from >= k && inTree(from-k, to-k, n-k)
}

// eachOf calls with all lists of n of the pool's hashes.
func eachOf(pool []api.Hash, n int, call func([]api.Hash)) {
	l := make([]api.Hash, n)
	var fill func(int)
	fill = func(i int) {
		if i == n {
			call(l)
			return
		}
		for _, h := range pool {
			l[i] = h
			fill(i + 1)
		}
	}
	fill(0)
}

// Of all that can be put together of the hashes of a list's own tree, at each place and of the same
// number of hashes, just what is told of the list is right.
func TestP162OnlyWhatIsTold(t *testing.T) {
	most := 6
	if testing.Short() {
		most = 5
	}
	for n := 1; n <= most; n++ {
		l := entries(n)
		pool, root := nodesOf(l), rootOf(l)
		for i := range n {
			told, _ := entryOf(l, i)
			cut := len(told.Ahead)
			eachOf(pool, cut+len(told.Behind)+1, func(some []api.Hash) {
				h, x := some[0], trail.Trail{Ahead: some[1 : 1+cut], Behind: some[1+cut:]}
				if trail.IsEntry(x, i, n, h, root) != (h == l[i] && same(x, told)) {
					t.Fatal("entry", i, "of", n, ":", h, x)
				}
			})
		}
		for m := range n + 1 {
			told, _ := growthOf(l, m)
			cut, old := len(told.Ahead), rootOf(l[:m])
			eachOf(pool, cut+len(told.Behind), func(some []api.Hash) {
				x := trail.Trail{Ahead: some[:cut], Behind: some[cut:]}
				elder, _, _ := leadsOf(x, m, n)
				if trail.IsGrowth(x, m, n, old, root) != same(x, told) || trail.IsGrowth(x, m, n, elder, root) != same(x, told) {
					t.Fatal("the first", m, "of", n, ":", x)
				}
			})
		}
	}
}

// With the told trail no other roots are those of the first ones: neither one that the list's tree
// has elsewhere, nor that of another number of hashes.
func TestP162NoOtherElderRoot(t *testing.T) {
	for n := range 20 {
		l := entries(n)
		for m := range n + 1 {
			x, e := trail.Growth(l, m)
			if e != api.OK {
				t.Fatal(m, n, e)
			}
			for _, old := range nodesOf(l) {
				wantGrowth(t, "an elder root of the pool", x, m, n, old, rootOf(l), old == rootOf(l[:m]))
				wantGrowth(t, "a root of the pool", x, m, n, rootOf(l[:m]), old, old == rootOf(l))
			}
		}
	}
}

// Two lists that differ at one place: what one tells is right of its own root; of the other one's it
// is right only if the lists' difference is not in it.
func TestP162OfAnotherList(t *testing.T) {
	for n := 1; n <= 24; n++ {
		l := entries(n)
		root := rootOf(l)
		for at := range n {
			k := slices.Clone(l)
			k[at] = countedHash(byte(at))
			for i := range n + 1 {
				name := fmt.Sprint("another hash at ", at)
				x, e := trail.Growth(k, i)
				if e != api.OK {
					t.Fatal(i, n, e)
				}
				wantGrowth(t, name, x, i, n, rootOf(k[:i]), rootOf(k), true)
				wantGrowth(t, name+", the list's root", x, i, n, rootOf(k[:i]), root, false)
				wantGrowth(t, name+", the list's roots", x, i, n, rootOf(l[:i]), root, false)
				wantGrowth(t, name+", the list's elder root", x, i, n, rootOf(l[:i]), rootOf(k), at >= i)
				if i == n {
					continue
				}
				x, e = trail.Entry(k, i)
				if e != api.OK {
					t.Fatal(i, n, e)
				}
				wantEntry(t, name, x, i, n, k[i], rootOf(k), true)
				wantEntry(t, name+", the list's root", x, i, n, k[i], root, false)
				wantEntry(t, name+", the list's entry", x, i, n, l[i], rootOf(k), at != i)
				wantEntry(t, name+", the list's entry and root", x, i, n, l[i], root, at == i)
			}
		}
	}
}

// Two trails of the same numbers that aren't the same never lead to the same roots: so who has one
// that is right of a root that isn't its own has a clash.
func TestP162DifferentTrailsLeadApart(t *testing.T) {
	chance := rand.New(rand.NewSource(174))
	for range 400 {
		n := 1 + chance.Intn(1<<(1+chance.Intn(20)))
		i := chance.Intn(n)
		x, h := anyEntry(chance, i, n), anyHashes(chance, 1)[0]
		root, _ := leadOf(x, i, n, h)
		y, g := anyEntry(chance, i, n), anyHashes(chance, 1)[0]
		other, _ := leadOf(y, i, n, g)
		wantEntry(t, "its own root", x, i, n, h, root, true)
		wantEntry(t, "its own root", y, i, n, g, other, true)
		wantEntry(t, "another one's root", x, i, n, h, other, false)
		wantEntry(t, "another one's root", y, i, n, g, root, false)
		p, q := anyGrowth(chance, i, n), anyGrowth(chance, i, n)
		if chance.Intn(2) == 0 {
			q.Ahead = p.Ahead
		}
		oldP, rootP, _ := leadsOf(p, i, n)
		oldQ, rootQ, _ := leadsOf(q, i, n)
		wantGrowth(t, "its own roots", p, i, n, oldP, rootP, true)
		wantGrowth(t, "its own roots", q, i, n, oldQ, rootQ, true)
		wantGrowth(t, "another one's root", p, i, n, oldP, rootQ, false)
		wantGrowth(t, "another one's elder root", p, i, n, oldQ, rootP, oldP == oldQ)
	}
}
