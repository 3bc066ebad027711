package proof_test

import (
	"bytes"
	"maps"
	"math/rand"
	"slices"
	"testing"

	"rolodex/api"
	"rolodex/hash"
	"rolodex/proof"
	"rolodex/trie"
)

// wantShown asks that what a tree shows of a key is right, and what it has.
func wantShown(t *testing.T, f *trie.Forest, tree int, root, key api.Hash) {
	t.Helper()
	value, is := f.Get(tree, key)
	wantCheck(t, mustShow(t, f, tree, key), key, root, value, is, true)
}

func TestP122WhatIsShownIsRight(t *testing.T) {
	chance := rand.New(rand.NewSource(1221))
	for _, keys := range sortsOfKeys() {
		f, trees := &trie.Forest{}, []int{api.None}
		for _, k := range keys {
			trees = append(trees, mustPut(t, f, trees[len(trees)-1], k, anyKey(chance)))
		}
		for i, x := range trees {
			if i > 6 && i%40 != 0 && i < len(trees)-1 {
				continue
			}
			root, _ := f.Root(x)
			for _, k := range slices.Concat(keys, asked(chance, keys)) {
				wantShown(t, f, x, root, k)
			}
		}
	}
}

// Trees that grow out of any elder one, with values that come and go: each shows what it has, and
// nothing that is shown in one is right of another one's root.
func TestP122EachTreeShowsItsOwn(t *testing.T) {
	chance := rand.New(rand.NewSource(1222))
	var keys []api.Hash
	for range 12 {
		keys = append(keys, api.Hash{byte(chance.Intn(256)), byte(chance.Intn(2))})
	}
	f, trees, all := &trie.Forest{}, []int{api.None}, []map[api.Hash]api.Hash{{}}
	for range 60 {
		i, k := chance.Intn(len(trees)), keys[chance.Intn(len(keys))]
		has := maps.Clone(all[i])
		has[k] = api.Hash{byte(chance.Intn(3))}
		trees, all = append(trees, mustPut(t, f, trees[i], k, has[k])), append(all, has)
	}
	for i, x := range trees {
		for j, y := range trees {
			root, _ := f.Root(y)
			for _, k := range keys {
				p := mustShow(t, f, x, k)
				value, is, right := proof.Check(p, k, root)
				v, has := all[j][k]
				if right != maps.Equal(all[i], all[j]) || right && (value != v || is != has) {
					t.Fatalf("a proof of the tree %d held against the tree %d: %x, %v, %v", x, y, value, is, right)
				}
			}
		}
	}
}

// ways answers a proof for each node of a tree, which goes there from the top and ends there,
// wherever a key leads.
func ways(m *model, steps []proof.Step) []proof.Proof {
	if m == nil {
		return []proof.Proof{{}}
	}
	p := proof.Proof{Steps: slices.Clone(steps)}
	if m.leaf {
		p.End, p.Key, p.Value = 1, m.key, m.value
		return []proof.Proof{p}
	}
	p.End, p.Prefix, p.Left, p.Right = 2, prefixOf(m.first), m.left.hash, m.right.hash
	left := append(slices.Clone(steps), proof.Step{Prefix: p.Prefix, Other: p.Right})
	right := append(slices.Clone(steps), proof.Step{Prefix: p.Prefix, Other: p.Left})
	return slices.Concat([]proof.Proof{p}, ways(m.left, left), ways(m.right, right))
}

// differ tells whether both proofs are right of the key and the root, and don't show the same.
func differ(p, q proof.Proof, key, root api.Hash) bool {
	v, i, r := proof.Check(p, key, root)
	w, j, s := proof.Check(q, key, root)
	return r && s && (v != w || i != j)
}

// clash tells whether some text of the one and some of the other are different, and have one hash.
func clash(p, q proof.Proof, key api.Hash) bool {
	for _, a := range proof.Texts(p, key) {
		for _, b := range proof.Texts(q, key) {
			if hash.Clash(a, b) {
				return true
			}
		}
	}
	return false
}

// All that one tree's nodes could tell of a key, were they held up in place of what it shows.
func TestP122NothingElseCanBeShown(t *testing.T) {
	chance := rand.New(rand.NewSource(1223))
	for _, keys := range sortsOfKeys() {
		keys = keys[:min(len(keys), 20)]
		f, x, has := &trie.Forest{}, api.None, map[api.Hash]api.Hash{}
		for _, k := range keys {
			has[k] = anyKey(chance)
			x = mustPut(t, f, x, k, has[k])
		}
		root, _ := f.Root(x)
		all := ways(modelOf(has), nil)
		for _, k := range asked(chance, keys) {
			p, right := mustShow(t, f, x, k), 0
			for _, q := range all {
				if wantAsModel(t, q, k, root) {
					right++
				}
				if differ(p, q, k, root) && !clash(p, q, k) {
					t.Fatalf("both %v and %v are right of %x", p, q, k)
				}
			}
			if right != 1 {
				t.Fatal("of one key there are", right, "right proofs")
			}
		}
	}
}

// cut answers the proof that ends where p has its step i: as the inner node which stands there.
func cut(p proof.Proof, key api.Hash, i int) proof.Proof {
	below := hash.Sum(textsOf(p, key)[len(p.Steps)-1-i])
	q := proof.Proof{Steps: slices.Clone(p.Steps[:i]), End: 2, Prefix: p.Steps[i].Prefix}
	q.Left, q.Right = below, p.Steps[i].Other
	if leadsRight(key, q.Prefix.Len) {
		q.Left, q.Right = q.Right, q.Left
	}
	return q
}

// Whoever makes a root out of a proof of his own can't make two that show different things.
func TestP122ForgersHaveOneShowing(t *testing.T) {
	chance := rand.New(rand.NewSource(1224))
	for range 8000 {
		key := anyKey(chance)
		p := forged(chance, key)
		root := topOf(p, key)
		for i := range p.Steps {
			q := cut(p, key, i)
			if topOf(q, key) != root {
				t.Fatalf("what is cut from %v has another root", p)
			}
			wantAsModel(t, q, key, root)
			if differ(p, q, key, root) && !clash(p, q, key) {
				t.Fatalf("both %v and %v are right of %x", p, q, key)
			}
		}
	}
}

// The texts of a right proof hang on one another: the root is the last one's hash, and each one's
// hash stands in the next one, on the side where the key leads. So two proofs that are right of one
// key and one root have the same texts from the last one on, down to where two of one hash differ.
func TestP122TextsHangOnOneAnother(t *testing.T) {
	chance := rand.New(rand.NewSource(1225))
	const leftAt, rightAt = 1 + 4 + 2 + 4 + 32 + 4, 1 + 4 + 2 + 4 + 32 + 4 + 32 + 4
	for _, keys := range sortsOfKeys() {
		f, x := &trie.Forest{}, api.None
		for _, k := range keys {
			x = mustPut(t, f, x, k, anyKey(chance))
		}
		root, _ := f.Root(x)
		for _, k := range asked(chance, keys) {
			p := mustShow(t, f, x, k)
			texts := proof.Texts(p, k)
			if hash.Sum(texts[len(texts)-1]) != root || len(texts) != len(p.Steps)+1 {
				t.Fatalf("of %x the uppermost text isn't the root's", k)
			}
			for i, s := range slices.Backward(p.Steps) {
				at := len(p.Steps) - i
				from := leftAt
				if leadsRight(k, s.Prefix.Len) {
					from = rightAt
				}
				below := hash.Sum(texts[at-1])
				if !bytes.Equal(texts[at][from:from+32], below[:]) {
					t.Fatalf("of %x the text %d hasn't the hash of the one below", k, at)
				}
			}
		}
	}
}

// Proofs of one key by trees that came about in other ways are the same.
func TestP122OneTreeHasOneProof(t *testing.T) {
	chance := rand.New(rand.NewSource(1226))
	for _, keys := range sortsOfKeys() {
		f, g, x, y := &trie.Forest{}, &trie.Forest{}, api.None, api.None
		for _, i := range chance.Perm(len(keys)) {
			x = mustPut(t, f, x, keys[i], api.Hash{byte(i)})
		}
		for range chance.Intn(40) * min(len(keys), 1) {
			y = mustPut(t, g, y, keys[chance.Intn(len(keys))], anyKey(chance))
		}
		for i, k := range keys {
			y = mustPut(t, g, y, k, api.Hash{byte(i)})
		}
		for _, k := range asked(chance, keys) {
			wantProof(t, mustShow(t, f, x, k), mustShow(t, g, y, k))
		}
	}
}
