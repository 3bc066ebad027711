package proof_test

import (
	"math"
	"math/rand"
	"testing"

	"rolodex/api"
	"rolodex/proof"
	"rolodex/trie"
)

func TestP121ShowOfATreeWithoutKeys(t *testing.T) {
	f := &trie.Forest{}
	for range 2 {
		for _, k := range []api.Hash{{}, {1}, {31: 255}} {
			wantProof(t, mustShow(t, f, api.None, k), proof.Proof{})
			wantCheck(t, proof.Proof{}, k, trie.Empty(), api.Hash{}, false, true)
			wantCheck(t, proof.Proof{}, k, rootOf(nil), api.Hash{}, false, true)
		}
		putAll(t, f, "", "1")
	}
}

func TestP121ShowOfATreeOfOneLeaf(t *testing.T) {
	f := &trie.Forest{}
	x := mustPut(t, f, api.None, api.Hash{1}, api.Hash{9})
	root := hashOf("fc7271ba1e542812818be8d86d0c72758087d8dda1f528c6ec4e574ac1ff9da3")
	for _, k := range []api.Hash{{}, {1}, {1, 31: 1}, {129}, {254}} {
		p := mustShow(t, f, x, k)
		wantProof(t, p, proof.Proof{End: 1, Key: api.Hash{1}, Value: api.Hash{9}})
		if k == (api.Hash{1}) {
			wantCheck(t, p, k, root, api.Hash{9}, true, true)
		} else {
			wantCheck(t, p, k, root, api.Hash{}, false, true)
		}
	}
}

// These hashes were reckoned by another program, with another SHA-256: of the tree's root, of its
// inner nodes by 00100, 0010010 and 1, and of its leaves.
const (
	someRoot    = "cd949bacdd1614c74b03caa6c9c28c33bb5ccbd9dc0b486aef84132c03d6933a"
	someInner5  = "31640e4b1ad96cc97d18f915f368be7a08dfc223f4805a06b5c323fe87e2d1f9"
	someInner7  = "efc85b4b00d69a7e1144b4c158ad53a1fea870170cec7657e9a148076e7d8733"
	someInner1  = "3727ccfe2aac70ddc415071f49b01a36905da3a495bca0efde423abcf9c974cd"
	someLeaf20  = "e6e808a6ced45a2f2a5f1bfb5eb062d563979d81b0b176b22eba1a7ddd349abf"
	someLeaf24  = "cec5caadb1f3a4c312e580c46a09e70584ac937ba94d0e27386daea4fe510ed6"
	someLeaf25  = "9c28738f1df9fab1b571df400be495c752111d46ae0a4ac2984e8d540d6b2ac5"
	someLeaf80  = "f37f122031055b809bb9fcbb1ddb214c5d9a74370fe2cdeb342ab8aa442b5d02"
	someLeafC0  = "30d721acb38a0ff3bf7fe373101bf13860411b45b8f3ba6790b43f6c7786b950"
	sharedBits5 = 0x20
	sharedBits7 = 0x24
)

func someTree(t *testing.T) (*trie.Forest, int) {
	t.Helper()
	f, x := &trie.Forest{}, api.None
	for i, b := range []byte{0x20, 0x24, 0x25, 0x80, 0xc0} {
		x = mustPut(t, f, x, api.Hash{b}, api.Hash{byte(i + 1)})
	}
	return f, x
}

func stepOf(length int, bits byte, other string) proof.Step {
	return proof.Step{Prefix: api.Prefix{Len: length, Bits: api.Hash{bits}}, Other: hashOf(other)}
}

func TestP121ShowByHand(t *testing.T) {
	f, x := someTree(t)
	left, right := stepOf(0, 0, someInner1), stepOf(0, 0, someInner5)
	five, seven := stepOf(5, sharedBits5, someLeaf20), stepOf(7, sharedBits7, someLeaf24)
	leaf20 := proof.Proof{
		Steps: []proof.Step{left, stepOf(5, sharedBits5, someInner7)},
		End:   1, Key: api.Hash{0x20}, Value: api.Hash{1},
	}
	leaf25 := proof.Proof{Steps: []proof.Step{left, five, seven}, End: 1, Key: api.Hash{0x25}, Value: api.Hash{3}}
	leafC0 := proof.Proof{
		Steps: []proof.Step{right, stepOf(1, 0x80, someLeaf80)},
		End:   1, Key: api.Hash{0xc0}, Value: api.Hash{5},
	}
	inner5 := proof.Proof{
		Steps: []proof.Step{left},
		End:   2, Prefix: api.Prefix{Len: 5, Bits: api.Hash{sharedBits5}},
		Left: hashOf(someLeaf20), Right: hashOf(someInner7),
	}
	inner7 := proof.Proof{
		Steps: []proof.Step{left, five},
		End:   2, Prefix: api.Prefix{Len: 7, Bits: api.Hash{sharedBits7}},
		Left: hashOf(someLeaf24), Right: hashOf(someLeaf25),
	}
	for _, c := range []struct {
		key, value api.Hash
		is         bool
		p          proof.Proof
	}{
		{api.Hash{0x20}, api.Hash{1}, true, leaf20},
		{api.Hash{0x21}, api.Hash{}, false, leaf20},
		{api.Hash{0x23, 255}, api.Hash{}, false, leaf20},
		{api.Hash{0x25}, api.Hash{3}, true, leaf25},
		{api.Hash{0x25, 31: 1}, api.Hash{}, false, leaf25},
		{api.Hash{0xc0}, api.Hash{5}, true, leafC0},
		{api.Hash{0xff}, api.Hash{}, false, leafC0},
		{api.Hash{}, api.Hash{}, false, inner5},
		{api.Hash{0x28}, api.Hash{}, false, inner5},
		{api.Hash{0x7f}, api.Hash{}, false, inner5},
		{api.Hash{0x26}, api.Hash{}, false, inner7},
		{api.Hash{0x27, 255}, api.Hash{}, false, inner7},
	} {
		wantProof(t, mustShow(t, f, x, c.key), c.p)
		wantCheck(t, c.p, c.key, hashOf(someRoot), c.value, c.is, true)
	}
}

// An inner node at the top that doesn't hold the key: no steps.
func TestP121ShowOfAnEndAtTheTop(t *testing.T) {
	f := &trie.Forest{}
	x, has := putAll(t, f, "0101", "01011")
	m := modelOf(has)
	for _, k := range []string{"", "1", "00", "011", "0100", "01001"} {
		p := mustShow(t, f, x, keyOf(k))
		wantProof(t, p, proof.Proof{End: 2, Prefix: prefixOf("0101"), Left: m.left.hash, Right: m.right.hash})
		wantCheck(t, p, keyOf(k), m.hash, api.Hash{}, false, true)
	}
}

// All trees on the way to all sorts of trees, asked for keys that are there and that aren't.
func TestP121ShowAsTheModel(t *testing.T) {
	chance := rand.New(rand.NewSource(1211))
	for _, keys := range sortsOfKeys() {
		f, x, has := &trie.Forest{}, api.None, map[api.Hash]api.Hash{}
		for i := range len(keys) + 1 {
			if i < 12 || i%60 == 0 || i == len(keys) {
				m := modelOf(has)
				for _, k := range asked(chance, keys) {
					wantProof(t, mustShow(t, f, x, k), proofOf(m, k))
				}
			}
			if i < len(keys) {
				has[keys[i]] = anyKey(chance)
				x = mustPut(t, f, x, keys[i], has[keys[i]])
			}
		}
	}
}

// The longest way has a step at each bit.
func TestP121ShowOfTheLongestWay(t *testing.T) {
	chance := rand.New(rand.NewSource(1212))
	k := anyKey(chance)
	f := &trie.Forest{}
	x := mustPut(t, f, api.None, k, api.Hash{7})
	for i := range 256 {
		x = mustPut(t, f, x, turned(k, i), api.Hash{byte(i)})
	}
	p := mustShow(t, f, x, k)
	root, _ := f.Root(x)
	if len(p.Steps) != 256 || len(proof.Texts(p, k)) != 257 {
		t.Fatal("the longest way has", len(p.Steps), "steps")
	}
	wantCheck(t, p, k, root, api.Hash{7}, true, true)
	wantTexts(t, p, k)
}

// Any node of a forest is a tree: the proof begins there.
func TestP121ShowOfAPart(t *testing.T) {
	f, _ := someTree(t)
	for i := range f.Size() {
		has := map[api.Hash]api.Hash{}
		for _, pair := range f.List(i) {
			has[pair.Key] = pair.Value
		}
		for b := range 256 {
			k := api.Hash{byte(b)}
			wantProof(t, mustShow(t, f, i, k), proofOf(modelOf(has), k))
		}
	}
}

// A tree that was added node by node, not put.
func TestP121ShowOfAnAddedTree(t *testing.T) {
	f := &trie.Forest{}
	for i, s := range []string{"111", "0", "110"} {
		f.Add(trie.Node{Leaf: true, Key: keyOf(s), Value: api.Hash{byte(i)}})
	}
	f.Add(trie.Node{Prefix: prefixOf("11"), Left: 2, Right: 0})
	x, e := f.Add(trie.Node{Left: 1, Right: 3})
	if e != api.OK {
		t.Fatal("Add:", e)
	}
	has := map[api.Hash]api.Hash{keyOf("111"): {}, keyOf("0"): {1}, keyOf("110"): {2}}
	for b := range 256 {
		wantProof(t, mustShow(t, f, x, api.Hash{byte(b)}), proofOf(modelOf(has), api.Hash{byte(b)}))
	}
}

func TestP121ShowOfWrongTrees(t *testing.T) {
	f, _ := someTree(t)
	for _, g := range []*trie.Forest{nil, {}, f} {
		size := g.Size()
		for _, x := range []int{-2, -3, size, size + 1, math.MaxInt, math.MinInt} {
			p, e := proof.Show(g, x, api.Hash{0x20})
			wantProof(t, p, proof.Proof{})
			if e != api.ErrArg || g.Size() != size {
				t.Errorf("Show of the tree %d: %d", x, e)
			}
		}
	}
	p, e := proof.Show(nil, api.None, api.Hash{})
	wantProof(t, p, proof.Proof{})
	if e != api.ErrArg {
		t.Error("Show of a nil forest:", e)
	}
	if _, e := proof.Show(nil, 0, api.Hash{}); e != api.ErrArg {
		t.Error("Show of a nil forest's node:", e)
	}
}

func TestP121ShowChangesNothing(t *testing.T) {
	f, x := someTree(t)
	size, key := f.Size(), api.Hash{0x25}
	p := mustShow(t, f, x, key)
	q := mustShow(t, f, x, key)
	for i := range p.Steps {
		p.Steps[i] = proof.Step{}
	}
	wantCheck(t, q, key, hashOf(someRoot), api.Hash{3}, true, true)
	wantProof(t, mustShow(t, f, x, key), q)
	if root, _ := f.Root(x); root != hashOf(someRoot) || f.Size() != size {
		t.Errorf("a Show changed the forest: %x, %d", root, f.Size())
	}
}
