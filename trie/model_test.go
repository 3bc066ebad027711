package trie_test

import (
	"bytes"
	"encoding/hex"
	"fmt"
	"math/rand"
	"slices"
	"strings"
	"testing"

	"rolodex/api"
	"rolodex/hash"
	"rolodex/trie"
)

const mostNodes = 1 << 20

// model is a node as the chapter has it, without numbers.
type model struct {
	leaf        bool
	key, value  api.Hash
	first       string // the bits of its prefix
	left, right *model
	hash        api.Hash
}

// digits answers the bits of k, one character each, from bit 0 on.
func digits(k api.Hash) string {
	var s strings.Builder
	for _, b := range k {
		fmt.Fprintf(&s, "%08b", b)
	}
	return s.String()
}

// keyOf answers the key that begins with these digits, and has noughts behind them.
func keyOf(s string) api.Hash {
	var k api.Hash
	for i, c := range s {
		if c == '1' {
			k[i/8] |= 128 >> (i % 8)
		}
	}
	return k
}

func prefixOf(s string) api.Prefix {
	return api.Prefix{Len: len(s), Bits: keyOf(s)}
}

// turned answers k with one bit turned.
func turned(k api.Hash, i int) api.Hash {
	k[i/8] ^= 128 >> (i % 8)
	return k
}

func anyKey(chance *rand.Rand) api.Hash {
	var k api.Hash
	chance.Read(k[:])
	return k
}

// leafText and innerText have the bytes as the chapter has them.
func leafText(key, value api.Hash) []byte {
	return slices.Concat([]byte{108, 0, 0, 0, 32}, key[:], []byte{0, 0, 0, 32}, value[:])
}

func innerText(p api.Prefix, left, right api.Hash) []byte {
	b := []byte{110, 0, 0, 0, 2, byte(p.Len >> 8), byte(p.Len), 0, 0, 0, 32}
	four := []byte{0, 0, 0, 32}
	return slices.Concat(b, p.Bits[:], four, left[:], four, right[:])
}

// modelOf makes the tree of these keys and values from the top down.
func modelOf(has map[api.Hash]api.Hash) *model {
	var all []string
	for k := range has {
		all = append(all, digits(k))
	}
	slices.Sort(all)
	return modelOfSorted(all, has)
}

func modelOfSorted(all []string, has map[api.Hash]api.Hash) *model {
	if len(all) == 0 {
		return nil
	}
	if len(all) == 1 {
		key := keyOf(all[0])
		return &model{leaf: true, key: key, value: has[key], hash: hash.Sum(leafText(key, has[key]))}
	}
	first, last := all[0], all[len(all)-1]
	n := 0
	for first[n] == last[n] {
		n++
	}
	middle := slices.IndexFunc(all, func(s string) bool { return s[n] == '1' })
	m := &model{first: first[:n]}
	m.left, m.right = modelOfSorted(all[:middle], has), modelOfSorted(all[middle:], has)
	m.hash = hash.Sum(innerText(prefixOf(m.first), m.left.hash, m.right.hash))
	return m
}

// rootOf answers a model's root; the one of the tree without keys was reckoned by another program.
func rootOf(m *model) api.Hash {
	if m == nil {
		return hashOf("3f79bb7b435b05321651daefd374cdc681dc06faa65e374e38337b88ca046dea")
	}
	return m.hash
}

func hashOf(digits string) api.Hash {
	b, e := hex.DecodeString(digits)
	if e != nil {
		panic(e)
	}
	return api.Hash(b)
}

// wantTree holds a tree's nodes, number by number, to the model's, and answers the numbers.
func wantTree(t *testing.T, f *trie.Forest, tree int, m *model) []int {
	t.Helper()
	if m == nil {
		if tree != api.None {
			t.Fatal("the tree without keys is", tree)
		}
		return nil
	}
	n, ok := f.Node(tree)
	if !ok {
		t.Fatal("there is no node", tree)
	}
	if m.leaf {
		want := trie.Node{Leaf: true, Key: m.key, Value: m.value, Left: api.None, Right: api.None, Hash: m.hash}
		if n != want {
			t.Fatalf("the leaf %d is %v, not %v", tree, n, want)
		}
		return []int{tree}
	}
	if n.Left >= tree || n.Right >= tree {
		t.Fatal("the node", tree, "stands ahead of what is below it:", n.Left, n.Right)
	}
	want := trie.Node{Prefix: prefixOf(m.first), Left: n.Left, Right: n.Right, Hash: m.hash}
	if n != want {
		t.Fatalf("the inner node %d is %v, not %v", tree, n, want)
	}
	left, right := wantTree(t, f, n.Left, m.left), wantTree(t, f, n.Right, m.right)
	return slices.Concat(left, right, []int{tree})
}

// wantAll holds all that is told of a tree to the keys and values that it should have.
func wantAll(t *testing.T, f *trie.Forest, tree int, has map[api.Hash]api.Hash) []int {
	t.Helper()
	m := modelOf(has)
	numbers := wantTree(t, f, tree, m)
	if r, e := f.Root(tree); r != rootOf(m) || e != api.OK {
		t.Fatalf("Root of %d: %x, %d", tree, r, e)
	}
	wantList(t, f, tree, has)
	for k, v := range has {
		wantGet(t, f, tree, k, v, true)
	}
	return numbers
}

func wantList(t *testing.T, f *trie.Forest, tree int, has map[api.Hash]api.Hash) {
	t.Helper()
	var pairs []trie.Pair
	for k, v := range has {
		pairs = append(pairs, trie.Pair{Key: k, Value: v})
	}
	slices.SortFunc(pairs, func(a, b trie.Pair) int { return bytes.Compare(a.Key[:], b.Key[:]) })
	if list := f.List(tree); !slices.Equal(list, pairs) {
		t.Fatalf("List of %d: %x, not %x", tree, list, pairs)
	}
}

func wantGet(t *testing.T, f *trie.Forest, tree int, key, value api.Hash, is bool) {
	t.Helper()
	if v, ok := f.Get(tree, key); v != value || ok != is {
		t.Fatalf("Get of %x in %d: %x, %v", key, tree, v, ok)
	}
}

func wantError(t *testing.T, what string, x int, e, want api.Errno) {
	t.Helper()
	if x != 0 || e != want {
		t.Fatalf("%s: %d, %d, not the error %d", what, x, e, want)
	}
}

func wantSize(t *testing.T, f *trie.Forest, size int) {
	t.Helper()
	if f.Size() != size {
		t.Fatal("the forest's size is", f.Size(), "and not", size)
	}
}

func mustPut(t *testing.T, f *trie.Forest, tree int, key, value api.Hash) int {
	t.Helper()
	x, e := f.Put(tree, key, value)
	if e != api.OK {
		t.Fatalf("Put of %x in %d: %d", key, tree, e)
	}
	return x
}

func mustAdd(t *testing.T, f *trie.Forest, n trie.Node) int {
	t.Helper()
	x, e := f.Add(n)
	if e != api.OK || x != f.Size()-1 {
		t.Fatalf("Add of %v: %d, %d", n, x, e)
	}
	return x
}

// putAll puts keys of a text's first bits, with any values, and answers the tree and what it has.
func putAll(t *testing.T, f *trie.Forest, firsts ...string) (int, map[api.Hash]api.Hash) {
	t.Helper()
	tree, has := api.None, map[api.Hash]api.Hash{}
	for i, s := range firsts {
		has[keyOf(s)] = api.Hash{100, byte(i)}
		tree = mustPut(t, f, tree, keyOf(s), has[keyOf(s)])
	}
	return tree, has
}

// state has all nodes of a forest.
func state(f *trie.Forest) []trie.Node {
	var all []trie.Node
	for i := range f.Size() {
		n, _ := f.Node(i)
		all = append(all, n)
	}
	return all
}

// sortsOfKeys has sets of keys of many shapes: some that share much, some that share nothing, a
// chain of them that goes down bit by bit, and those at both ends.
func sortsOfKeys() [][]api.Hash {
	chance := rand.New(rand.NewSource(111))
	ones := keyOf(strings.Repeat("1", 256))
	var chained, dense, low []api.Hash
	for i := range 256 {
		chained = append(chained, turned(ones, i))
		dense = append(dense, api.Hash{31: byte(i)})
		low = append(low, api.Hash{byte(i)})
	}
	var any []api.Hash
	for range 120 {
		any = append(any, anyKey(chance))
	}
	k := anyKey(chance)
	around := []api.Hash{k}
	for _, i := range []int{0, 1, 7, 8, 9, 15, 16, 127, 128, 254, 255} {
		around = append(around, turned(k, i))
	}
	return [][]api.Hash{
		{{}}, {ones}, {{}, ones}, {{}, {31: 1}}, {ones, turned(ones, 255)}, {{}, {128}},
		around, any, dense, low, append(chained, ones),
	}
}
