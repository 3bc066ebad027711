package delta_test

import (
	"math"
	"math/rand"
	"slices"
	"strings"
	"testing"

	"rolodex/api"
	"rolodex/delta"
	"rolodex/trie"
)

func TestP132ApplyByHand(t *testing.T) {
	f := &trie.Forest{}
	x := mustApply(t, f, api.None, someRows(), hashOf(someRoot))
	if x != 8 || f.Size() != 9 {
		t.Fatal("nine rows make the tree", x, "of", f.Size(), "nodes")
	}
	y := mustApply(t, f, x, laterRows(), hashOf(laterRoot))
	if y != 15 || f.Size() != 16 {
		t.Fatal("seven rows more make the tree", y, "of", f.Size(), "nodes")
	}
	has := map[api.Hash]api.Hash{{0x20}: {1}, {0x24}: {2}, {0x25}: {3}, {0x80}: {4}, {0xc0}: {5}}
	wantTree(t, f, x, has)
	has[api.Hash{0x24}], has[api.Hash{0xe0}] = api.Hash{9}, api.Hash{6}
	wantTree(t, f, y, has)
}

func TestP132ApplyOfOneLeaf(t *testing.T) {
	f := &trie.Forest{}
	r := leafRow(api.Hash{1}, api.Hash{9})
	root := hashOf("fc7271ba1e542812818be8d86d0c72758087d8dda1f528c6ec4e574ac1ff9da3")
	for i := range 3 {
		for _, tree := range []int{api.None, i - 1} {
			if x := mustApply(t, f, tree, []delta.Row{r}, root); x != f.Size()-1 {
				t.Fatal("a leaf more has the number", x)
			}
		}
	}
	wantTree(t, f, 5, map[api.Hash]api.Hash{{1}: {9}})
	wantTree(t, f, mustApply(t, f, 2, []delta.Row{{Leaf: true}}, rowHash(delta.Row{Leaf: true})), map[api.Hash]api.Hash{{}: {}})
}

func TestP132ApplyWithoutRows(t *testing.T) {
	f := &trie.Forest{}
	for range 2 {
		for _, rows := range [][]delta.Row{nil, {}} {
			if x := mustApply(t, f, api.None, rows, emptyRoot()); x != api.None {
				t.Fatal("the tree without keys is", x)
			}
			wantRefused(t, f, api.None, rows, api.Hash{}, api.ErrProof, 0)
			wantRefused(t, f, api.None, rows, hashOf(someRoot), api.ErrProof, 0)
			wantRefused(t, f, api.None, rows, turned(emptyRoot(), 255), api.ErrProof, 0)
			for x := range f.Size() {
				mustApply(t, f, x, rows, mustRoot(t, f, x))
				wantRefused(t, f, x, rows, turned(mustRoot(t, f, x), 0), api.ErrProof, 0)
				wantRefused(t, f, x, rows, emptyRoot(), api.ErrProof, 0)
				wantRefused(t, f, x, rows, mustRoot(t, f, (x+1)%f.Size()), api.ErrProof, 0)
			}
		}
		f = bothTrees(t)
	}
}

// Any of these is refused ahead of all else, whatever the rows are.
func TestP132ApplyToNoTree(t *testing.T) {
	missing := []delta.Row{innerRow("", api.Hash{1}, api.Hash{2})}
	for _, f := range []*trie.Forest{nil, {}, bothTrees(t)} {
		size := f.Size()
		wrong := []int{-2, -3, size, size + 1, mostNodes, math.MaxInt, math.MinInt}
		if f == nil {
			wrong = append(wrong, api.None, 1)
		}
		for _, x := range wrong {
			wantRefused(t, f, x, nil, emptyRoot(), api.ErrArg, 0)
			wantRefused(t, f, x, nil, api.Hash{}, api.ErrArg, 0)
			wantRefused(t, f, x, someRows(), hashOf(someRoot), api.ErrArg, 0)
			wantRefused(t, f, x, someRows(), hashOf(laterRoot), api.ErrArg, 0)
			wantRefused(t, f, x, missing, api.Hash{}, api.ErrArg, 0)
		}
	}
}

// Each bit of the root counts, and it is the last row's node that has it: no other's, not the tree's.
func TestP132ApplyWithAnotherRoot(t *testing.T) {
	f := bothTrees(t)
	rows := laterRows()
	for i := range 256 {
		wantRefused(t, f, 8, rows, turned(hashOf(laterRoot), i), api.ErrProof, len(rows))
	}
	for _, r := range rows[:len(rows)-1] {
		wantRefused(t, f, 8, rows, rowHash(r), api.ErrProof, len(rows))
	}
	for _, root := range []api.Hash{{}, emptyRoot(), hashOf(someRoot)} {
		wantRefused(t, f, 8, rows, root, api.ErrProof, len(rows))
	}
	more := append(laterRows(), leafRow(api.Hash{1}, api.Hash{2}))
	wantRefused(t, f, 8, more, hashOf(laterRoot), api.ErrProof, len(more))
	mustApply(t, f, 8, more, rowHash(more[len(more)-1]))
	mustApply(t, f, 8, rows, hashOf(laterRoot))
}

// A row's child is one of the tree's nodes, or of a row ahead. None is a row that isn't there, or
// stands behind, though another Apply added it.
func TestP132ApplyOfRowsWithoutAChild(t *testing.T) {
	rows, root := laterRows(), hashOf(laterRoot)
	for i, above := range []int{2, 3, 5, 4, 6, 6} { // whose child the row i is
		f := bothTrees(t)
		left := slices.Delete(slices.Clone(rows), i, i+1)
		behind := append(slices.Clone(left), rows[i])
		for range 2 {
			wantRefused(t, f, 8, left, root, api.ErrProof, above-1)
			wantRefused(t, f, 8, behind, root, api.ErrProof, above-1)
			mustApply(t, f, 8, rows, root)
		}
	}
}

// Nodes that the forest has, but not the tree: another tree's, those above it, those beside it.
func TestP132ApplyIsOfTheTreeAlone(t *testing.T) {
	f := bothTrees(t)
	rows, root := laterRows(), hashOf(laterRoot)
	wantRefused(t, f, api.None, rows, root, api.ErrProof, 2)
	wantRefused(t, f, 6, rows, root, api.ErrProof, 3)
	wantRefused(t, f, 7, rows, root, api.ErrProof, 2)
	wantRefused(t, f, 9, rows, root, api.ErrProof, 2)
	wantRefused(t, f, 5, someRows()[6:7], hashOf(someInner1), api.ErrProof, 0)
	wantRefused(t, f, 8, rows[5:6], hashOf(laterInner1), api.ErrProof, 0)
	mustApply(t, f, 17, rows[5:6], hashOf(laterInner1))
	mustApply(t, f, 17, rows, root)
	mustApply(t, f, 8, rows, root)
}

// What an Apply left behind it is no tree's, and so nobody's child.
func TestP132ApplyLeavesNoTree(t *testing.T) {
	f := bothTrees(t)
	rows, root := laterRows(), hashOf(laterRoot)
	for i := range rows {
		wantRefused(t, f, 8, rows[:i], root, api.ErrProof, i)
		if _, e := wantApply(t, f, 8, rows[i:], root); i > 0 && e != api.ErrProof {
			t.Fatal("the rows from", i, "on go on from those that were left:", e)
		}
	}
	wantTree(t, f, mustApply(t, f, 8, rows, root), pairsOf(f, 17))
}

// Hashes of one side that nobody has, beside one that is there.
func TestP132ApplyOfRowsWithOneChild(t *testing.T) {
	f := bothTrees(t)
	r := someRows()[8]
	mustApply(t, f, 8, []delta.Row{r}, hashOf(someRoot))
	for i := range 256 {
		wantRefused(t, f, 8, []delta.Row{{Left: turned(r.Left, i), Right: r.Right}}, hashOf(someRoot), api.ErrProof, 0)
		wantRefused(t, f, 8, []delta.Row{{Left: r.Left, Right: turned(r.Right, i)}}, hashOf(someRoot), api.ErrProof, 0)
	}
	for _, h := range []api.Hash{{}, emptyRoot()} {
		wantRefused(t, f, 8, []delta.Row{{Left: h, Right: r.Right}}, hashOf(someRoot), api.ErrProof, 0)
		wantRefused(t, f, 8, []delta.Row{{Left: r.Left, Right: h}}, hashOf(someRoot), api.ErrProof, 0)
		wantRefused(t, f, 8, []delta.Row{{Left: h, Right: h}}, hashOf(someRoot), api.ErrProof, 0)
		wantRefused(t, f, api.None, []delta.Row{{Left: h, Right: h}}, hashOf(someRoot), api.ErrProof, 0)
	}
}

// All pairs of a tree's nodes below all sorts of prefixes: those that layer 11 doesn't take may not
// be; those that it takes make a tree, of some of the keys, too.
func TestP132ApplyOfNodesThatMayNotBe(t *testing.T) {
	f := &trie.Forest{}
	x := putAll(t, f, "0010", "00100001", "00101", "0010111", "0011", "1")
	all := knownOf(f, x)
	right := 0
	for _, first := range []string{"", "0", "001", "0010", "00100", "001000", "0010000", "00101", "001011", "1", "0000"} {
		for _, left := range all {
			for _, other := range all {
				r := innerRow(first, left.hash, other.hash)
				y, e := wantApply(t, f, x, []delta.Row{r}, rowHash(r))
				if isHeld := strings.HasPrefix(left.first, first+"0") && strings.HasPrefix(other.first, first+"1"); isHeld != (e == api.OK) {
					t.Fatalf("%q over %q and %q: %d", first, left.first, other.first, e)
				}
				if e == api.OK {
					right++
					wantTree(t, f, y, pairsOf(f, y))
				}
			}
		}
	}
	if right < 20 {
		t.Error("only", right, "nodes may be")
	}
}

func TestP132ApplyOfWrongPrefixes(t *testing.T) {
	f := bothTrees(t)
	r := someRows()[7]
	var wrong []api.Prefix
	for i := range 256 {
		wrong = append(wrong, api.Prefix{Len: r.Prefix.Len, Bits: turned(r.Prefix.Bits, i)})
	}
	for _, size := range []int{-1, 0, 3, 4, 6, 255, 256, 257, 261, 65541, math.MaxInt, math.MinInt} {
		wrong = append(wrong, api.Prefix{Len: size, Bits: r.Prefix.Bits})
	}
	wrong = append(wrong, api.Prefix{}, api.Prefix{Len: 256}, api.Prefix{Len: 256, Bits: api.Hash{0x20}})
	for _, p := range wrong {
		w := delta.Row{Prefix: p, Left: r.Left, Right: r.Right}
		wantRefused(t, f, 8, []delta.Row{w}, hashOf(someInner5), api.ErrProof, 0)
		wantRefused(t, f, 8, []delta.Row{w}, rowHash(w), api.ErrProof, 0)
		wantRefused(t, f, 8, []delta.Row{leafRow(api.Hash{}, api.Hash{}), r, w, r}, hashOf(someInner5), api.ErrProof, 2)
	}
	w := r
	w.Left, w.Right = w.Right, w.Left
	wantRefused(t, f, 8, []delta.Row{w}, rowHash(w), api.ErrProof, 0)
	mustApply(t, f, 8, []delta.Row{r}, hashOf(someInner5))
}

// Fields that a row doesn't have count for nothing, as in layer 11.
func TestP132ApplyOfRowsWithMoreFields(t *testing.T) {
	chance := rand.New(rand.NewSource(1321))
	rows := someRows()
	for i := range rows {
		if rows[i].Leaf {
			rows[i].Prefix = api.Prefix{Len: 300 * (i - 2), Bits: anyKey(chance)}
			rows[i].Left, rows[i].Right = anyKey(chance), hashOf(someLeaf20)
		} else {
			rows[i].Key, rows[i].Value = anyKey(chance), anyKey(chance)
		}
	}
	f := &trie.Forest{}
	mustApply(t, f, api.None, rows, hashOf(someRoot))
}

// One row twice is two nodes; what stands already in the tree may come once more.
func TestP132ApplyOfRowsThatAreThere(t *testing.T) {
	f := bothTrees(t)
	rows := someRows()
	twice := slices.Concat(rows, rows)
	if x := mustApply(t, f, 8, twice, hashOf(someRoot)); x != 18+17 {
		t.Error("eighteen rows more make the tree", x)
	}
	if x := mustApply(t, f, 8, rows[8:], hashOf(someRoot)); x != 18+18 {
		t.Error("the uppermost node once more has the number", x)
	}
	wantTree(t, f, f.Size()-1, pairsOf(f, 8))
}

// A row may stand on any of the tree's nodes, however deep; rows may stand for nobody's children.
func TestP132ApplyOfAPart(t *testing.T) {
	f := bothTrees(t)
	x := mustApply(t, f, 8, []delta.Row{
		leafRow(api.Hash{0xff}, api.Hash{}),
		innerRow("", hashOf(someLeaf25), hashOf(someLeaf80)),
	}, rowHash(innerRow("", hashOf(someLeaf25), hashOf(someLeaf80))))
	wantTree(t, f, x, map[api.Hash]api.Hash{{0x25}: {3}, {0x80}: {4}})
	for i := range 9 {
		n, _ := f.Node(i)
		r := delta.Row{Leaf: n.Leaf, Key: n.Key, Value: n.Value, Prefix: n.Prefix}
		if !n.Leaf {
			r.Left, r.Right = mustRoot(t, f, n.Left), mustRoot(t, f, n.Right)
		}
		wantTree(t, f, mustApply(t, f, 8, []delta.Row{r}, n.Hash), pairsOf(f, i))
	}
}

// The rows stay as they are, what is behind them in their room too, and aren't kept.
func TestP132ApplyLeavesTheRows(t *testing.T) {
	f := &trie.Forest{}
	room := append(someRows(), laterRows()...)
	x := mustApply(t, f, api.None, room[:9], hashOf(someRoot))
	if !slices.Equal(room, append(someRows(), laterRows()...)) {
		t.Fatal("what is behind the rows was changed")
	}
	wantRefused(t, f, x, room[:8], hashOf(someRoot), api.ErrProof, 8)
	if !slices.Equal(room, append(someRows(), laterRows()...)) {
		t.Fatal("what is behind the rows was changed")
	}
	nodes := state(f)
	clear(room)
	if !slices.Equal(state(f), nodes) {
		t.Fatal("the forest has the rows' memory")
	}
}

// The forest is filled up to a few nodes.
func TestP132ApplyToAFullForest(t *testing.T) {
	if testing.Short() {
		t.Skip("fills a forest")
	}
	f := bothTrees(t)
	for f.Size() < mostNodes-11 {
		mustAdd(t, f, trie.Node{Leaf: true})
	}
	rows, root := laterRows(), hashOf(laterRoot)
	apply := func(rows []delta.Row, root api.Hash, want api.Errno, size int) {
		t.Helper()
		x, e := delta.Apply(f, 8, rows, root)
		if e != want || f.Size() != size || e != api.OK && x != 0 || e == api.OK && len(rows) > 0 && x != size-1 {
			t.Fatalf("Apply of %d rows: %d, %d; of nodes there are %d", len(rows), x, e, f.Size())
		}
	}
	apply([]delta.Row{rows[0], rows[1], rows[3], innerRow("", api.Hash{}, api.Hash{})}, root, api.ErrProof, mostNodes-8)
	g := *f
	apply(rows, root, api.OK, mostNodes-1)
	wantTree(t, f, mostNodes-2, pairsOf(f, 17))
	apply(rows, root, api.ErrFull, mostNodes)
	wantFull(t, f, apply)
	*f = g
	mustAdd(t, f, trie.Node{Leaf: true})
	apply(rows, root, api.OK, mostNodes)
	wantTree(t, f, mostNodes-1, pairsOf(f, 17))
	wantFull(t, f, apply)
	*f = g
	mustAdd(t, f, trie.Node{Leaf: true})
	mustAdd(t, f, trie.Node{Leaf: true})
	apply(rows, root, api.ErrFull, mostNodes)
	wantFull(t, f, apply)
}

// wantFull asks that each row is refused, and why: of what may not be it isn't asked any more
// whether it has room.
func wantFull(t *testing.T, f *trie.Forest, apply func([]delta.Row, api.Hash, api.Errno, int)) {
	t.Helper()
	top := someRows()[8]
	apply(laterRows(), hashOf(laterRoot), api.ErrFull, mostNodes)
	apply(laterRows(), api.Hash{}, api.ErrFull, mostNodes)
	apply([]delta.Row{top}, hashOf(someRoot), api.ErrFull, mostNodes)
	apply([]delta.Row{top}, api.Hash{}, api.ErrFull, mostNodes)
	apply([]delta.Row{{Leaf: true}}, rowHash(delta.Row{Leaf: true}), api.ErrFull, mostNodes)
	apply([]delta.Row{{Left: top.Left}}, hashOf(someRoot), api.ErrProof, mostNodes)
	apply([]delta.Row{{Right: top.Right}}, hashOf(someRoot), api.ErrProof, mostNodes)
	apply([]delta.Row{{Left: top.Right, Right: top.Left}}, hashOf(someRoot), api.ErrProof, mostNodes)
	apply([]delta.Row{{Prefix: api.Prefix{Len: 256}, Left: top.Left, Right: top.Right}}, hashOf(someRoot), api.ErrProof, mostNodes)
	apply(nil, hashOf(someRoot), api.OK, mostNodes)
	apply(nil, hashOf(laterRoot), api.ErrProof, mostNodes)
	for _, x := range []int{-2, mostNodes, math.MaxInt} {
		if y, e := delta.Apply(f, x, laterRows(), hashOf(laterRoot)); y != 0 || e != api.ErrArg {
			t.Fatalf("Apply on %d: %d, %d", x, y, e)
		}
	}
}
