package delta_test

import (
	"math"
	"math/rand"
	"slices"
	"testing"

	"rolodex/api"
	"rolodex/delta"
	"rolodex/trie"
)

// wantSince asks for rows as they are written down.
func wantSince(t *testing.T, f *trie.Forest, tree, size int, want []delta.Row) {
	t.Helper()
	if rows, e := delta.Since(f, tree, size); e != api.OK || !slices.Equal(rows, want) {
		t.Fatalf("Since of %d and %d: %v, %d, not %v", tree, size, rows, e, want)
	}
}

func TestP131SinceOfATreeOfOneLeaf(t *testing.T) {
	f := &trie.Forest{}
	x := mustPut(t, f, api.None, api.Hash{1}, api.Hash{9})
	wantSince(t, f, x, 0, []delta.Row{{Leaf: true, Key: api.Hash{1}, Value: api.Hash{9}}})
	wantSince(t, f, x, 1, nil)
	y := mustPut(t, f, api.None, api.Hash{}, api.Hash{})
	wantSince(t, f, y, 1, []delta.Row{{Leaf: true}})
	wantSince(t, f, x, 1, nil)
	wantSince(t, f, y, 2, nil)
}

func TestP131SinceOfATreeWithoutKeys(t *testing.T) {
	f := &trie.Forest{}
	for range 2 {
		for _, size := range []int{0, 1, 2, 1000, math.MaxInt} {
			wantSince(t, f, api.None, size, nil)
		}
		putAll(t, f, "", "1")
	}
}

// These hashes were reckoned by another program, with another SHA-256: of a tree of the keys 20,
// 24, 25, 80 and c0 (two digits of 16 each, with noughts behind them) with the values 1 to 5, and
// of the one that has 9 at 24 and, at the new key e0, 6.
const (
	someRoot   = "cd949bacdd1614c74b03caa6c9c28c33bb5ccbd9dc0b486aef84132c03d6933a"
	someInner5 = "31640e4b1ad96cc97d18f915f368be7a08dfc223f4805a06b5c323fe87e2d1f9"
	someInner7 = "efc85b4b00d69a7e1144b4c158ad53a1fea870170cec7657e9a148076e7d8733"
	someInner1 = "3727ccfe2aac70ddc415071f49b01a36905da3a495bca0efde423abcf9c974cd"
	someLeaf20 = "e6e808a6ced45a2f2a5f1bfb5eb062d563979d81b0b176b22eba1a7ddd349abf"
	someLeaf24 = "cec5caadb1f3a4c312e580c46a09e70584ac937ba94d0e27386daea4fe510ed6"
	someLeaf25 = "9c28738f1df9fab1b571df400be495c752111d46ae0a4ac2984e8d540d6b2ac5"
	someLeaf80 = "f37f122031055b809bb9fcbb1ddb214c5d9a74370fe2cdeb342ab8aa442b5d02"
	someLeafC0 = "30d721acb38a0ff3bf7fe373101bf13860411b45b8f3ba6790b43f6c7786b950"

	laterRoot   = "2cbdb683ac0565a6388cbaac168b0325e521ad4d1fc8031a4905b464a0d120fc"
	laterInner5 = "f62485ab998497a05cc2c1abc37c8cc2e416500c446fe86e9d2bee60b57b2599"
	laterInner7 = "f5d0748e124018efd574c207ab0121e67a2534df94396b903fa0a893d68814ee"
	laterInner1 = "abe4e4bb0a4a1e0c833953f8074aaa4012a2346d3d5d64bec3cdae277a298dc0"
	laterInner2 = "b54e4bf0d88954fc195dc137047ef0d72e0144729bbb404e1715e3d2edb5ae8f"
	laterLeaf24 = "ba13e3ff336c77620dc2b290391273c64a76b0556823272b3e210568f13e68b2"
	laterLeafE0 = "37db11f358a3242d8de81fbbe494f729a1c5c0ce97dc03e125f0f40e4be621d1"
)

// someRows has the nodes of the first tree, and laterRows those that only the second one has.
func someRows() []delta.Row {
	return []delta.Row{
		leafRow(api.Hash{0xc0}, api.Hash{5}),
		leafRow(api.Hash{0x20}, api.Hash{1}),
		leafRow(api.Hash{0x24}, api.Hash{2}),
		leafRow(api.Hash{0x25}, api.Hash{3}),
		{Prefix: api.Prefix{Len: 7, Bits: api.Hash{0x24}}, Left: hashOf(someLeaf24), Right: hashOf(someLeaf25)},
		leafRow(api.Hash{0x80}, api.Hash{4}),
		{Prefix: api.Prefix{Len: 1, Bits: api.Hash{0x80}}, Left: hashOf(someLeaf80), Right: hashOf(someLeafC0)},
		{Prefix: api.Prefix{Len: 5, Bits: api.Hash{0x20}}, Left: hashOf(someLeaf20), Right: hashOf(someInner7)},
		{Left: hashOf(someInner5), Right: hashOf(someInner1)},
	}
}

func laterRows() []delta.Row {
	return []delta.Row{
		leafRow(api.Hash{0xe0}, api.Hash{6}),
		leafRow(api.Hash{0x24}, api.Hash{9}),
		{Prefix: api.Prefix{Len: 2, Bits: api.Hash{0xc0}}, Left: hashOf(someLeafC0), Right: hashOf(laterLeafE0)},
		{Prefix: api.Prefix{Len: 7, Bits: api.Hash{0x24}}, Left: hashOf(laterLeaf24), Right: hashOf(someLeaf25)},
		{Prefix: api.Prefix{Len: 5, Bits: api.Hash{0x20}}, Left: hashOf(someLeaf20), Right: hashOf(laterInner7)},
		{Prefix: api.Prefix{Len: 1, Bits: api.Hash{0x80}}, Left: hashOf(someLeaf80), Right: hashOf(laterInner2)},
		{Left: hashOf(laterInner5), Right: hashOf(laterInner1)},
	}
}

// bothTrees adds the nodes of both trees one by one, in the order of the rows, with two leaves of
// no tree between them: the trees are 8 and 17.
func bothTrees(t *testing.T) *trie.Forest {
	t.Helper()
	f := &trie.Forest{}
	for i, n := range []trie.Node{
		{Leaf: true, Key: api.Hash{0xc0}, Value: api.Hash{5}},
		{Leaf: true, Key: api.Hash{0x20}, Value: api.Hash{1}},
		{Leaf: true, Key: api.Hash{0x24}, Value: api.Hash{2}},
		{Leaf: true, Key: api.Hash{0x25}, Value: api.Hash{3}},
		{Prefix: prefixOf("0010010"), Left: 2, Right: 3},
		{Leaf: true, Key: api.Hash{0x80}, Value: api.Hash{4}},
		{Prefix: prefixOf("1"), Left: 5, Right: 0},
		{Prefix: prefixOf("00100"), Left: 1, Right: 4},
		{Left: 7, Right: 6},
		{Leaf: true, Key: api.Hash{1}},
		{Leaf: true, Key: api.Hash{0xe0}, Value: api.Hash{6}},
		{Leaf: true, Key: api.Hash{0x24}, Value: api.Hash{9}},
		{Prefix: prefixOf("11"), Left: 0, Right: 10},
		{Prefix: prefixOf("0010010"), Left: 11, Right: 3},
		{Prefix: prefixOf("00100"), Left: 1, Right: 13},
		{Leaf: true, Key: api.Hash{2}},
		{Prefix: prefixOf("1"), Left: 5, Right: 12},
		{Left: 14, Right: 16},
	} {
		if x := mustAdd(t, f, n); x != i {
			t.Fatal("the node", i, "has the number", x)
		}
	}
	if mustRoot(t, f, 8) != hashOf(someRoot) || mustRoot(t, f, 17) != hashOf(laterRoot) {
		t.Fatal("the trees have other roots")
	}
	return f
}

func TestP131SinceByHand(t *testing.T) {
	f := bothTrees(t)
	some, later := someRows(), laterRows()
	for size := range 9 {
		wantSince(t, f, 8, size, some[size:])
	}
	for _, size := range []int{9, 10, 17, 18, 19, 1 << 40, math.MaxInt} {
		wantSince(t, f, 8, size, nil)
	}
	for size, from := range map[int]int{8: 0, 9: 0, 10: 0, 11: 1, 12: 2, 13: 3, 14: 4, 15: 5, 16: 5, 17: 6, 18: 7, 19: 7} {
		wantSince(t, f, 17, size, later[from:])
	}
	ofBoth := slices.Concat([]delta.Row{some[0], some[1], some[3], some[5]}, later)
	for size, from := range []int{0, 1, 2, 2, 3, 3, 4, 4} {
		wantSince(t, f, 17, size, ofBoth[from:])
	}
}

// Any node is a tree: what is beside it and above it isn't the tree's.
func TestP131SinceOfAPart(t *testing.T) {
	f := bothTrees(t)
	some, later := someRows(), laterRows()
	wantSince(t, f, 4, 0, some[2:5])
	wantSince(t, f, 6, 0, []delta.Row{some[0], some[5], some[6]})
	wantSince(t, f, 7, 2, []delta.Row{some[2], some[3], some[4], some[7]})
	wantSince(t, f, 16, 9, []delta.Row{later[0], later[2], later[5]})
	wantSince(t, f, 15, 0, []delta.Row{leafRow(api.Hash{2}, api.Hash{})})
}

// Since all sizes, of all trees on the way to all sorts of trees, which stand beside others.
func TestP131SinceOfAllSorts(t *testing.T) {
	chance := rand.New(rand.NewSource(1311))
	for _, keys := range sortsOfKeys() {
		keys = keys[:min(len(keys), 60)]
		f, trees := &trie.Forest{}, []int{api.None}
		for range 2 * len(keys) {
			from := trees[chance.Intn(len(trees))]
			if chance.Intn(4) > 0 {
				from = trees[len(trees)-1]
			}
			trees = append(trees, mustPut(t, f, from, keys[chance.Intn(len(keys))], api.Hash{byte(chance.Intn(3))}))
		}
		for _, x := range trees {
			for _, size := range []int{0, 1, x - 1, x, x + 1, f.Size() - 1, f.Size(), f.Size() + 1, chance.Intn(f.Size()), math.MaxInt} {
				if size >= 0 {
					mustSince(t, f, x, size)
				}
			}
		}
	}
}

// What a Put has anew is what the tree has since: no more rows than the way to the key is long.
func TestP131SinceAPut(t *testing.T) {
	for _, keys := range sortsOfKeys() {
		f, x := &trie.Forest{}, api.None
		for round := range 2 {
			for i, k := range keys {
				size := f.Size()
				x = mustPut(t, f, x, k, api.Hash{byte(i), byte(round + 1)})
				rows := mustSince(t, f, x, size)
				wantFormed(t, f, x, rows)
				if len(rows) != f.Size()-size {
					t.Fatal("of", f.Size()-size, "nodes more there are", len(rows), "rows")
				}
			}
		}
	}
}

// wantFormed asks of a delta that children stand ahead of what is above them, and the uppermost
// node at last.
func wantFormed(t *testing.T, f *trie.Forest, tree int, rows []delta.Row) {
	t.Helper()
	at := map[api.Hash]int{}
	for i, r := range rows {
		at[rowHash(r)] = i
	}
	for i, r := range rows {
		for _, h := range []api.Hash{r.Left, r.Right} {
			if child, ok := at[h]; ok && !r.Leaf && child >= i {
				t.Fatal("the row", child, "is a child of the row", i)
			}
		}
	}
	if root := mustRoot(t, f, tree); len(rows) > 0 && rowHash(rows[len(rows)-1]) != root {
		t.Fatal("the last row isn't that of the uppermost node")
	}
}

// A tree that is as deep as a tree may be, with its leaves in all sorts of places.
func TestP131SinceOfTheDeepestTree(t *testing.T) {
	chance := rand.New(rand.NewSource(1312))
	k := anyKey(chance)
	f := &trie.Forest{}
	at := mustAdd(t, f, trie.Node{Leaf: true, Key: k})
	for i := 255; i >= 0; i-- {
		n := trie.Node{Prefix: prefixOf(digits(k)[:i]), Left: at}
		n.Right = mustAdd(t, f, trie.Node{Leaf: true, Key: turned(k, i), Value: api.Hash{byte(i)}})
		if digits(k)[i] == '1' {
			n.Left, n.Right = n.Right, n.Left
		}
		at = mustAdd(t, f, n)
	}
	for size := range f.Size() + 2 {
		if rows := mustSince(t, f, at, size); len(rows) != max(f.Size()-size, 0) {
			t.Fatal("since", size, "there are", len(rows), "rows")
		}
	}
}

func TestP131SinceOfWrongArguments(t *testing.T) {
	for _, f := range []*trie.Forest{nil, {}, bothTrees(t)} {
		size := f.Size()
		wrong := []int{-2, -3, size, size + 1, 1 << 20, math.MaxInt, math.MinInt}
		if f == nil {
			wrong = append(wrong, api.None, 1)
		}
		for _, x := range wrong {
			for _, since := range []int{0, 1, -1, size, math.MaxInt, math.MinInt} {
				wantNoRows(t, f, x, since)
			}
		}
		for x := api.None; x < size; x++ {
			for _, since := range []int{-1, -2, -1000, math.MinInt} {
				wantNoRows(t, f, x, since)
			}
		}
		if f.Size() != size {
			t.Fatal("what was refused changed the forest")
		}
	}
}

func wantNoRows(t *testing.T, f *trie.Forest, tree, size int) {
	t.Helper()
	if rows, e := delta.Since(f, tree, size); len(rows) > 0 || e != api.ErrArg {
		t.Fatalf("Since of %d and %d: %v, %d", tree, size, rows, e)
	}
}

func TestP131SinceIsNewMemory(t *testing.T) {
	f := bothTrees(t)
	nodes := state(f)
	a, _ := delta.Since(f, 17, 9)
	b, _ := delta.Since(f, 17, 9)
	for i := range a {
		a[i] = delta.Row{}
	}
	if !slices.Equal(b, laterRows()) {
		t.Error("two answers share their rows")
	}
	wantSince(t, f, 17, 9, laterRows())
	if !slices.Equal(state(f), nodes) {
		t.Error("a Since changed the forest")
	}
}
