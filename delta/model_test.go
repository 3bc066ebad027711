package delta_test

import (
	"bytes"
	"encoding/hex"
	"fmt"
	"math/rand"
	"slices"
	"strings"
	"testing"

	"rolodex/api"
	"rolodex/delta"
	"rolodex/hash"
	"rolodex/trie"
)

const mostNodes = 1 << 20

// digits answers the bits of k, one character each, from bit 0 on.
func digits(k api.Hash) string {
	var s strings.Builder
	for _, b := range k {
		fmt.Fprintf(&s, "%08b", b)
	}
	return s.String()
}

// keyOf answers the key that begins with these digits, and has noughts behind them.
func keyOf(s string) api.Hash {
	var k api.Hash
	for i, c := range s {
		if c == '1' {
			k[i/8] |= 128 >> (i % 8)
		}
	}
	return k
}

func prefixOf(s string) api.Prefix {
	return api.Prefix{Len: len(s), Bits: keyOf(s)}
}

// turned answers k with one bit turned.
func turned(k api.Hash, i int) api.Hash {
	k[i/8] ^= 128 >> (i % 8)
	return k
}

func anyKey(chance *rand.Rand) api.Hash {
	var k api.Hash
	chance.Read(k[:])
	return k
}

func hashOf(digits string) api.Hash {
	b, e := hex.DecodeString(digits)
	if e != nil {
		panic(e)
	}
	return api.Hash(b)
}

// leafText and innerText have the bytes as layer 11's chapter has them.
func leafText(key, value api.Hash) []byte {
	return slices.Concat([]byte{108, 0, 0, 0, 32}, key[:], []byte{0, 0, 0, 32}, value[:])
}

func innerText(p api.Prefix, left, right api.Hash) []byte {
	b := []byte{110, 0, 0, 0, 2, byte(p.Len >> 8), byte(p.Len), 0, 0, 0, 32}
	four := []byte{0, 0, 0, 32}
	return slices.Concat(b, p.Bits[:], four, left[:], four, right[:])
}

func leafRow(key, value api.Hash) delta.Row {
	return delta.Row{Leaf: true, Key: key, Value: value}
}

func innerRow(first string, left, right api.Hash) delta.Row {
	return delta.Row{Prefix: prefixOf(first), Left: left, Right: right}
}

// rowHash answers the hash of a row's node.
func rowHash(r delta.Row) api.Hash {
	if r.Leaf {
		return hash.Sum(leafText(r.Key, r.Value))
	}
	return hash.Sum(innerText(r.Prefix, r.Left, r.Right))
}

// emptyRoot was reckoned by another program.
func emptyRoot() api.Hash {
	return hashOf("3f79bb7b435b05321651daefd374cdc681dc06faa65e374e38337b88ca046dea")
}

// treeOf makes the tree of these keys and values from the top down: its rows, children ahead of
// what stands above them, and its root.
func treeOf(has map[api.Hash]api.Hash) ([]delta.Row, api.Hash) {
	var all []string
	for k := range has {
		all = append(all, digits(k))
	}
	if len(all) == 0 {
		return nil, emptyRoot()
	}
	slices.Sort(all)
	rows := treeOfSorted(all, has)
	return rows, rowHash(rows[len(rows)-1])
}

func treeOfSorted(all []string, has map[api.Hash]api.Hash) []delta.Row {
	if len(all) == 1 {
		key := keyOf(all[0])
		return []delta.Row{leafRow(key, has[key])}
	}
	first, last := all[0], all[len(all)-1]
	n := 0
	for first[n] == last[n] {
		n++
	}
	middle := slices.IndexFunc(all, func(s string) bool { return s[n] == '1' })
	left, right := treeOfSorted(all[:middle], has), treeOfSorted(all[middle:], has)
	top := innerRow(first[:n], rowHash(left[len(left)-1]), rowHash(right[len(right)-1]))
	return slices.Concat(left, right, []delta.Row{top})
}

// wantTree holds a tree's keys, values and root to those that it should have: all of them reckoned
// from the keys and values alone.
func wantTree(t *testing.T, f *trie.Forest, tree int, has map[api.Hash]api.Hash) {
	t.Helper()
	var pairs []trie.Pair
	for k, v := range has {
		pairs = append(pairs, trie.Pair{Key: k, Value: v})
	}
	slices.SortFunc(pairs, func(a, b trie.Pair) int { return bytes.Compare(a.Key[:], b.Key[:]) })
	if list := f.List(tree); !slices.Equal(list, pairs) {
		t.Fatalf("the tree %d has %x, not %x", tree, list, pairs)
	}
	_, root := treeOf(has)
	if r, e := f.Root(tree); r != root || e != api.OK {
		t.Fatalf("the root of the tree %d is %x, not %x", tree, r, root)
	}
}

// pairsOf answers what a tree has.
func pairsOf(f *trie.Forest, tree int) map[api.Hash]api.Hash {
	has := map[api.Hash]api.Hash{}
	for _, p := range f.List(tree) {
		has[p.Key] = p.Value
	}
	return has
}

// known is what a row may name as a child: a node's hash, and the bits that all of its keys share.
type known struct {
	hash  api.Hash
	first string
}

// nodesOf answers the numbers of all nodes of a tree.
func nodesOf(f *trie.Forest, tree int) []int {
	n, ok := f.Node(tree)
	if !ok {
		return nil
	}
	if n.Leaf {
		return []int{tree}
	}
	return slices.Concat(nodesOf(f, n.Left), nodesOf(f, n.Right), []int{tree})
}

// rowsSince answers what the chapter says of Since: all of the tree is gone through.
func rowsSince(f *trie.Forest, tree, size int) []delta.Row {
	var rows []delta.Row
	all := nodesOf(f, tree)
	slices.Sort(all)
	for _, i := range all {
		n, _ := f.Node(i)
		left, _ := f.Node(n.Left)
		right, _ := f.Node(n.Right)
		switch {
		case i < size:
		case n.Leaf:
			rows = append(rows, leafRow(n.Key, n.Value))
		default:
			rows = append(rows, delta.Row{Prefix: n.Prefix, Left: left.Hash, Right: right.Hash})
		}
	}
	return rows
}

func knownOf(f *trie.Forest, tree int) []known {
	var all []known
	for _, i := range nodesOf(f, tree) {
		n, _ := f.Node(i)
		if n.Leaf {
			all = append(all, known{n.Hash, digits(n.Key)})
		} else {
			all = append(all, known{n.Hash, digits(n.Prefix.Bits)[:n.Prefix.Len]})
		}
	}
	return all
}

// holds tells whether some node with that hash is there, and has only keys that begin so.
func holds(all []known, h api.Hash, first string) bool {
	return slices.ContainsFunc(all, func(k known) bool { return k.hash == h && strings.HasPrefix(k.first, first) })
}

// rowStands tells whether a row may be added behind those nodes, and which bits its keys share: the
// words of both chapters, on texts of 0s and 1s.
func rowStands(all []known, r delta.Row) (string, bool) {
	if r.Leaf {
		return digits(r.Key), true
	}
	if r.Prefix.Len < 0 || r.Prefix.Len > 255 {
		return "", false
	}
	first, rest := digits(r.Prefix.Bits)[:r.Prefix.Len], digits(r.Prefix.Bits)[r.Prefix.Len:]
	isHeld := holds(all, r.Left, first+"0") && holds(all, r.Right, first+"1")
	return first, isHeld && !strings.Contains(rest, "1")
}

// foretell answers how many nodes an Apply adds, and which error it answers, if there is room.
func foretell(f *trie.Forest, tree int, rows []delta.Row, root api.Hash) (int, api.Errno) {
	top, e := f.Root(tree)
	if e != api.OK {
		return 0, api.ErrArg
	}
	all := knownOf(f, tree)
	for i, r := range rows {
		first, ok := rowStands(all, r)
		if !ok {
			return i, api.ErrProof
		}
		top = rowHash(r)
		all = append(all, known{top, first})
	}
	if top != root {
		return len(rows), api.ErrProof
	}
	return len(rows), api.OK
}

// state has all nodes of a forest.
func state(f *trie.Forest) []trie.Node {
	var all []trie.Node
	for i := range f.Size() {
		n, _ := f.Node(i)
		all = append(all, n)
	}
	return all
}

// wantApply holds an Apply to what was foretold of it: the answer, the nodes that were there, and
// those that were added. It answers the tree.
func wantApply(t *testing.T, f *trie.Forest, tree int, rows []delta.Row, root api.Hash) (int, api.Errno) {
	t.Helper()
	more, want := foretell(f, tree, rows, root)
	nodes, given := state(f), slices.Clone(rows)
	x, e := delta.Apply(f, tree, rows, root)
	if e != want {
		t.Fatalf("Apply of %v: %d, not %d", rows, e, want)
	}
	if e != api.OK && x != 0 {
		t.Fatal("beside the error", e, "there stands", x)
	}
	if e == api.OK && more == 0 && x != tree || e == api.OK && more > 0 && x != len(nodes)+more-1 {
		t.Fatal("behind", len(nodes), "nodes, and", more, "more, Apply on", tree, "answers", x)
	}
	if !slices.Equal(rows, given) {
		t.Fatal("the rows were changed")
	}
	now := state(f)
	if len(now) != len(nodes)+more || !slices.Equal(now[:len(nodes)], nodes) {
		t.Fatal("of", len(nodes), "nodes there are now", len(now), "and not", more, "more, or they aren't the same")
	}
	for i, n := range now[len(nodes):] {
		wantNode(t, f, n, rows[i])
	}
	return x, e
}

// wantNode holds a node that was added to its row.
func wantNode(t *testing.T, f *trie.Forest, n trie.Node, r delta.Row) {
	t.Helper()
	want := trie.Node{Leaf: true, Key: r.Key, Value: r.Value, Left: api.None, Right: api.None, Hash: rowHash(r)}
	if !r.Leaf {
		left, _ := f.Node(n.Left)
		right, _ := f.Node(n.Right)
		if left.Hash != r.Left || right.Hash != r.Right {
			t.Fatalf("the children of %v aren't those of %v", n, r)
		}
		want = trie.Node{Prefix: r.Prefix, Left: n.Left, Right: n.Right, Hash: rowHash(r)}
	}
	if n != want {
		t.Fatalf("of the row %v there is the node %v, not %v", r, n, want)
	}
}

func mustApply(t *testing.T, f *trie.Forest, tree int, rows []delta.Row, root api.Hash) int {
	t.Helper()
	x, e := wantApply(t, f, tree, rows, root)
	if e != api.OK {
		t.Fatalf("Apply of %v on %d: %d", rows, tree, e)
	}
	return x
}

// wantRefused asks for an error, and how many of the rows were added ahead of it.
func wantRefused(t *testing.T, f *trie.Forest, tree int, rows []delta.Row, root api.Hash, want api.Errno, more int) {
	t.Helper()
	size := f.Size()
	x, e := wantApply(t, f, tree, rows, root)
	if x != 0 || e != want || f.Size() != size+more {
		t.Fatalf("Apply of %v on %d: %d, %d, and %d nodes more", rows, tree, x, e, f.Size()-size)
	}
}

func mustSince(t *testing.T, f *trie.Forest, tree, size int) []delta.Row {
	t.Helper()
	rows, e := delta.Since(f, tree, size)
	if want := rowsSince(f, tree, size); e != api.OK || !slices.Equal(rows, want) {
		t.Fatalf("Since of %d and %d: %v, %d, not %v", tree, size, rows, e, want)
	}
	return rows
}

func mustPut(t *testing.T, f *trie.Forest, tree int, key, value api.Hash) int {
	t.Helper()
	x, e := f.Put(tree, key, value)
	if e != api.OK {
		t.Fatalf("Put of %x in %d: %d", key, tree, e)
	}
	return x
}

func mustAdd(t *testing.T, f *trie.Forest, n trie.Node) int {
	t.Helper()
	x, e := f.Add(n)
	if e != api.OK {
		t.Fatalf("Add of %v: %d", n, e)
	}
	return x
}

func mustRoot(t *testing.T, f *trie.Forest, tree int) api.Hash {
	t.Helper()
	r, e := f.Root(tree)
	if e != api.OK {
		t.Fatalf("Root of %d: %d", tree, e)
	}
	return r
}

// putAll puts keys of a text's first bits, with any values, and answers the tree.
func putAll(t *testing.T, f *trie.Forest, firsts ...string) int {
	t.Helper()
	tree := api.None
	for i, s := range firsts {
		tree = mustPut(t, f, tree, keyOf(s), api.Hash{100, byte(i)})
	}
	return tree
}

// sortsOfKeys has sets of keys of many shapes: some that share much, some that share nothing, a
// chain of them that goes down bit by bit, and those at both ends.
func sortsOfKeys() [][]api.Hash {
	chance := rand.New(rand.NewSource(131))
	ones := keyOf(strings.Repeat("1", 256))
	var chained, dense, low, any []api.Hash
	for i := range 256 {
		chained = append(chained, turned(ones, i))
		dense = append(dense, api.Hash{31: byte(i)})
		low = append(low, api.Hash{byte(i)})
	}
	for range 120 {
		any = append(any, anyKey(chance))
	}
	k := anyKey(chance)
	around := []api.Hash{k}
	for _, i := range []int{0, 1, 7, 8, 9, 15, 16, 127, 128, 254, 255} {
		around = append(around, turned(k, i))
	}
	return [][]api.Hash{
		{{}}, {ones}, {{}, ones}, {{}, {31: 1}}, {ones, turned(ones, 255)}, {{}, {128}},
		around, any, dense, low, append(chained, ones),
	}
}
