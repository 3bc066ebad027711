package trie_test

import (
	"maps"
	"math/rand"
	"slices"
	"sync"
	"testing"

	"rolodex/api"
	"rolodex/trie"
)

// orders answers all orders of the numbers below n.
func orders(n int) [][]int {
	if n == 0 {
		return [][]int{nil}
	}
	var all [][]int
	for _, o := range orders(n - 1) {
		for at := range n {
			all = append(all, slices.Insert(slices.Clone(o), at, n-1))
		}
	}
	return all
}

// Five keys in all orders: one root, and the same keys and values.
func TestP113RootInAnyOrder(t *testing.T) {
	for _, keys := range sortsOfKeys() {
		if len(keys) < 5 {
			continue
		}
		for _, some := range [][]api.Hash{keys[:5], {keys[0], keys[3], keys[len(keys)/2], keys[len(keys)-2], keys[len(keys)-1]}} {
			f, has := &trie.Forest{}, map[api.Hash]api.Hash{}
			for i, k := range some {
				has[k] = api.Hash{byte(i)}
			}
			root := rootOf(modelOf(has))
			for _, o := range orders(5) {
				x := api.None
				for _, i := range o {
					x = mustPut(t, f, x, some[i], api.Hash{byte(i)})
				}
				if r, _ := f.Root(x); r != root {
					t.Fatalf("in the order %v the root is %x, not %x", o, r, root)
				}
				wantList(t, f, x, has)
			}
		}
	}
}

// Values that come and go, nodes that are added, keys that are put again: all of it leads to the
// root of what there is at last.
func TestP113RootByManyWays(t *testing.T) {
	chance := rand.New(rand.NewSource(1131))
	for _, keys := range sortsOfKeys() {
		keys = keys[:min(len(keys), 40)]
		f, has := &trie.Forest{}, map[api.Hash]api.Hash{}
		for i, k := range keys {
			has[k] = api.Hash{byte(i)}
		}
		roots := map[api.Hash]int{rootOf(modelOf(has)): 1}
		for range 10 {
			x := api.None
			for range chance.Intn(60) {
				x = mustPut(t, f, x, keys[chance.Intn(len(keys))], anyKey(chance))
			}
			for _, i := range chance.Perm(len(keys)) {
				x = mustPut(t, f, x, keys[i], api.Hash{byte(i)})
			}
			r, _ := f.Root(x)
			roots[r]++
			r, _ = f.Root(addAll(t, f, modelOf(has)))
			roots[r]++
		}
		if len(roots) != 1 {
			t.Fatal("one set of keys and values has", len(roots), "roots")
		}
	}
}

// Another key, another value, one less or one more: another root.
func TestP113OtherTreesHaveOtherRoots(t *testing.T) {
	for _, keys := range sortsOfKeys() {
		f, x, has := &trie.Forest{}, api.None, map[api.Hash]api.Hash{}
		seen := map[api.Hash]int{trie.Empty(): 1}
		for i, k := range keys {
			has[k] = api.Hash{byte(i)}
			x = mustPut(t, f, x, k, has[k])
			r, _ := f.Root(x)
			seen[r]++
			other, _ := f.Root(mustPut(t, f, x, k, turned(has[k], 255)))
			seen[other]++
		}
		if len(seen) != 2*len(keys)+1 {
			t.Fatal("of", 2*len(keys)+1, "trees there are", len(seen), "roots")
		}
	}
}

// Behind each Put, and each Add, all elder trees have what they had, and all elder nodes are what
// they were.
func TestP113ElderTreesStay(t *testing.T) {
	chance := rand.New(rand.NewSource(1132))
	for _, keys := range sortsOfKeys() {
		keys = keys[:min(len(keys), 30)]
		f := &trie.Forest{}
		trees, all := []int{api.None}, []map[api.Hash]api.Hash{{}}
		var nodes []trie.Node
		for range 80 {
			i, k, v := chance.Intn(len(trees)), keys[chance.Intn(len(keys))], api.Hash{byte(chance.Intn(4))}
			has := maps.Clone(all[i])
			has[k] = v
			trees, all = append(trees, mustPut(t, f, trees[i], k, v)), append(all, has)
			if chance.Intn(4) == 0 {
				addAll(t, f, modelOf(all[chance.Intn(len(all))]))
			}
			if now := state(f); !slices.Equal(now[:len(nodes)], nodes) {
				t.Fatal("an elder node was changed")
			} else {
				nodes = now
			}
		}
		for i, x := range trees {
			wantAll(t, f, x, all[i])
		}
	}
}

// Forests don't hang on one another, nor do a forest and its copy, whichever of them goes on.
func TestP113CopiesGoTheirOwnWays(t *testing.T) {
	chance := rand.New(rand.NewSource(1133))
	keys := sortsOfKeys()[6]
	type grown struct {
		f    trie.Forest
		tree int
		has  map[api.Hash]api.Hash
	}
	all := []*grown{{tree: api.None, has: map[api.Hash]api.Hash{}}, {tree: api.None, has: map[api.Hash]api.Hash{}}}
	for range 400 {
		g := all[chance.Intn(len(all))]
		k, v := keys[chance.Intn(len(keys))], anyKey(chance)
		g.tree = mustPut(t, &g.f, g.tree, k, v)
		g.has[k] = v
		if chance.Intn(20) == 0 {
			all = append(all, &grown{g.f, g.tree, maps.Clone(g.has)})
		}
		if chance.Intn(20) == 0 { // what a forest was is what it is again
			from, to := all[chance.Intn(len(all))], all[chance.Intn(len(all))]
			to.f, to.tree, to.has = from.f, from.tree, maps.Clone(from.has)
		}
	}
	for _, g := range all {
		wantAll(t, &g.f, g.tree, g.has)
	}
}

// A copy of each size that a forest had goes on, the smallest one first, and then the greatest one.
func TestP113CopiesOfEachSize(t *testing.T) {
	keys := sortsOfKeys()[7]
	for _, isBackward := range []bool{false, true} {
		var copies [40]trie.Forest
		var trees [40]int
		f, x := &trie.Forest{}, api.None
		for i := range copies {
			copies[i], trees[i] = *f, x
			x = mustPut(t, f, x, keys[i], api.Hash{})
		}
		for at := range copies {
			i := at
			if isBackward {
				i = len(copies) - 1 - at
			}
			trees[i] = mustPut(t, &copies[i], trees[i], keys[i], api.Hash{byte(i), 1})
		}
		has := map[api.Hash]api.Hash{}
		for i, k := range keys[:len(copies)] {
			has[k] = api.Hash{byte(i), 1}
			wantAll(t, &copies[i], trees[i], has)
			has[k] = api.Hash{}
		}
		wantAll(t, f, x, has)
	}
}

// Copies may be worked on at one time.
func TestP113CopiesAtOneTime(t *testing.T) {
	f := &trie.Forest{}
	x, has := putAll(t, f, "0", "01", "1", "11")
	var group sync.WaitGroup
	for i := range 8 {
		g := *f
		group.Go(func() {
			y := x
			for j := range 100 {
				y, _ = g.Put(y, api.Hash{7, byte(i), byte(j)}, api.Hash{byte(i)})
			}
			if len(g.List(y)) != len(has)+100 {
				t.Error("a copy has", len(g.List(y)), "keys")
			}
		})
	}
	group.Wait()
	wantAll(t, f, x, has)
}
