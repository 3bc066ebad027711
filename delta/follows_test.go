package delta_test

import (
	"maps"
	"math/rand"
	"slices"
	"testing"

	"rolodex/api"
	"rolodex/delta"
	"rolodex/hash"
	"rolodex/trie"
)

// Another forest follows a tree that grows, delta by delta, of none, one or some keys each: it has
// the same keys, values and roots, and can go on by itself. Between them there stand other trees,
// and deltas that were refused.
func TestP133FollowersHaveTheSame(t *testing.T) {
	chance := rand.New(rand.NewSource(1331))
	for _, keys := range sortsOfKeys() {
		keys = keys[:min(len(keys), 80)]
		f, g, x, y := &trie.Forest{}, &trie.Forest{}, api.None, api.None
		has := map[api.Hash]api.Hash{}
		for range 40 {
			size := f.Size()
			for range chance.Intn(6) {
				k, v := keys[chance.Intn(len(keys))], api.Hash{byte(chance.Intn(3))}
				x, has[k] = mustPut(t, f, x, k, v), v
				mustPut(t, f, api.None, anyKey(chance), v)
			}
			rows, root := mustSince(t, f, x, size), mustRoot(t, f, x)
			wantRefused(t, g, y, rows, turned(root, chance.Intn(256)), api.ErrProof, len(rows))
			mustPut(t, g, y, anyKey(chance), api.Hash{})
			y = mustApply(t, g, y, rows, root)
			wantTree(t, g, y, has)
			wantTree(t, f, x, has)
		}
		k := anyKey(chance)
		has[k] = api.Hash{7}
		wantTree(t, g, mustPut(t, g, y, k, api.Hash{7}), has)
	}
}

// One delta for many epochs does what their deltas do one by one, and so does a delta since 0, on
// whatever tree.
func TestP133OneDeltaForMany(t *testing.T) {
	chance := rand.New(rand.NewSource(1332))
	for _, keys := range sortsOfKeys() {
		keys = keys[:min(len(keys), 40)]
		f, g := &trie.Forest{}, &trie.Forest{}
		trees, sizes, at, all := []int{api.None}, []int{0}, []int{api.None}, []map[api.Hash]api.Hash{{}}
		for i := range 12 {
			has, x := maps.Clone(all[i]), trees[i]
			for range 1 + chance.Intn(3) {
				k := keys[chance.Intn(len(keys))]
				has[k] = anyKey(chance)
				x = mustPut(t, f, x, k, has[k])
			}
			y := mustApply(t, g, at[i], mustSince(t, f, x, sizes[i]), mustRoot(t, f, x))
			trees, sizes, at, all = append(trees, x), append(sizes, f.Size()), append(at, y), append(all, has)
		}
		for to, x := range trees {
			for from := range to + 1 {
				rows := mustSince(t, f, x, sizes[from])
				wantTree(t, g, mustApply(t, g, at[from], rows, mustRoot(t, f, x)), all[to])
			}
			if whole := mustSince(t, f, x, 0); to > 0 {
				wantTree(t, g, mustApply(t, g, at[chance.Intn(len(at))], whole, mustRoot(t, f, x)), all[to])
			}
		}
		for i, y := range at {
			wantTree(t, g, y, all[i])
		}
	}
}

// Several later trees of one elder one: each has its own delta, and neither hangs on the others.
func TestP133ManyLaterTreesOfOne(t *testing.T) {
	chance := rand.New(rand.NewSource(1333))
	for _, keys := range sortsOfKeys() {
		f, g, x := &trie.Forest{}, &trie.Forest{}, api.None
		for _, k := range keys[:len(keys)/2] {
			x = mustPut(t, f, x, k, anyKey(chance))
		}
		elder := pairsOf(f, x)
		y := mustApply(t, g, api.None, mustSince(t, f, x, 0), mustRoot(t, f, x))
		for range 10 {
			size, later, has := f.Size(), x, maps.Clone(elder)
			for range 1 + chance.Intn(4) {
				k := keys[chance.Intn(len(keys))]
				has[k] = anyKey(chance)
				later = mustPut(t, f, later, k, has[k])
			}
			wantTree(t, g, mustApply(t, g, y, mustSince(t, f, later, size), mustRoot(t, f, later)), has)
			wantTree(t, g, y, elder)
		}
	}
}

// No delta is too long: neither one of a whole tree of many keys, nor one of all of its changes.
func TestP133LongDeltas(t *testing.T) {
	chance := rand.New(rand.NewSource(1336))
	f, g, x, y, has := &trie.Forest{}, &trie.Forest{}, api.None, api.None, map[api.Hash]api.Hash{}
	for range 3 {
		size := f.Size()
		for i := range 6000 {
			k := hash.Sum([]byte{byte(i), byte(i >> 8)})
			has[k] = anyKey(chance)
			x = mustPut(t, f, x, k, has[k])
		}
		rows, e := delta.Since(f, x, size)
		if len(rows) != 2*6000-1 || e != api.OK {
			t.Fatal("of all nodes there are", len(rows), "rows:", e)
		}
		if y, e = delta.Apply(g, y, rows, mustRoot(t, f, x)); e != api.OK || y != g.Size()-1 {
			t.Fatal("the long delta makes", y, "and", e)
		}
		wantTree(t, g, y, has)
	}
}

// A value that goes and comes back has a node that the elder tree has, too: whichever of them is
// taken for the child, the tree is that. (It is the row's, so that deltas can be handed on.)
func TestP133ValuesThatComeBack(t *testing.T) {
	f, g := &trie.Forest{}, &trie.Forest{}
	x := putAll(t, f, "0", "01", "011", "1", "11")
	has := pairsOf(f, x)
	y := mustApply(t, g, api.None, mustSince(t, f, x, 0), mustRoot(t, f, x))
	for k, v := range has {
		size, later := f.Size(), x
		later = mustPut(t, f, later, k, api.Hash{200})
		later = mustPut(t, f, later, k, v)
		rows := mustSince(t, f, later, size)
		if len(rows) == 0 || mustRoot(t, f, later) != mustRoot(t, f, x) {
			t.Fatal("there and back, there are", len(rows), "rows")
		}
		size = g.Size()
		made := mustApply(t, g, y, rows, mustRoot(t, f, later))
		wantTree(t, g, made, has)
		wantTree(t, g, mustApply(t, g, y, nil, mustRoot(t, f, later)), has)
		if !slices.Equal(mustSince(t, g, made, size), rows) {
			t.Fatal("what was made has other rows since than those of which it was made")
		}
	}
}

// spoil changes rows at random: what comes of it may stand, or not.
func spoil(chance *rand.Rand, rows []delta.Row) []delta.Row {
	if len(rows) == 0 {
		return rows
	}
	i, j := chance.Intn(len(rows)), chance.Intn(len(rows))
	r := &rows[i]
	switch chance.Intn(13) {
	case 0:
		return slices.Delete(rows, i, i+1)
	case 1:
		return slices.Insert(rows, j, rows[i])
	case 2:
		rows[i], rows[j] = rows[j], rows[i]
	case 3:
		r.Left, r.Right = r.Right, r.Left
	case 4:
		r.Left = rowHash(rows[j])
	case 5:
		r.Right = rowHash(rows[j])
	case 6:
		r.Leaf = !r.Leaf
	case 7:
		r.Prefix.Len = []int{r.Prefix.Len - 1, r.Prefix.Len + 1, 0, 256, 255, -1}[chance.Intn(6)]
	case 8:
		r.Prefix = rows[j].Prefix
	case 9:
		r.Prefix.Bits = turned(r.Prefix.Bits, chance.Intn(256))
	case 10:
		r.Key = turned(r.Key, chance.Intn(256))
	case 11:
		r.Value = anyKey(chance)
	default:
		return rows[:i]
	}
	return rows
}

// mend makes the children's hashes of rows that hang on others those that these have now, as one
// would who makes up a tree.
func mend(now, was []delta.Row) {
	hashes := map[api.Hash]api.Hash{}
	for i := range now {
		if h, ok := hashes[now[i].Left]; ok {
			now[i].Left = h
		}
		if h, ok := hashes[now[i].Right]; ok {
			now[i].Right = h
		}
		if i < len(was) {
			hashes[rowHash(was[i])] = rowHash(now[i])
		}
	}
}

// Whatever the rows are: what is made of them is a tree that has the root, and its keys and values
// have that root by definition. Nothing else is changed.
func TestP133WhoeverMakesTheRows(t *testing.T) {
	chance := rand.New(rand.NewSource(1334))
	sorts, right, wrong := sortsOfKeys(), 0, 0
	for range 6000 {
		keys := sorts[chance.Intn(len(sorts))]
		f, g, x := &trie.Forest{}, &trie.Forest{}, api.None
		for range chance.Intn(8) {
			x = mustPut(t, f, x, keys[chance.Intn(len(keys))], anyKey(chance))
		}
		y := mustApply(t, g, api.None, mustSince(t, f, x, 0), mustRoot(t, f, x))
		elder, size := pairsOf(g, y), f.Size()
		for range chance.Intn(5) {
			x = mustPut(t, f, x, keys[chance.Intn(len(keys))], anyKey(chance))
		}
		was := mustSince(t, f, x, size*chance.Intn(2))
		rows, root := slices.Clone(was), mustRoot(t, f, x)
		for range chance.Intn(3) {
			rows = spoil(chance, rows)
		}
		if chance.Intn(2) == 0 {
			mend(rows, was)
		}
		if len(rows) > 0 && chance.Intn(3) > 0 {
			root = rowHash(rows[len(rows)-1])
		}
		made, e := wantApply(t, g, y, rows, root)
		if e == api.OK {
			right++
			wantTree(t, g, made, pairsOf(g, made))
			if mustRoot(t, g, made) != root {
				t.Fatal("what was made hasn't the root")
			}
		} else {
			wrong++
		}
		wantTree(t, g, y, elder)
	}
	if right < 1000 || wrong < 1000 {
		t.Error(right, "were right, and", wrong, "weren't")
	}
}

// Of the later tree's own root nothing but its keys and values can be made, however the rows are
// changed, and whichever tree they are applied to.
func TestP133OneRootHasOneTree(t *testing.T) {
	chance := rand.New(rand.NewSource(1335))
	for _, keys := range sortsOfKeys() {
		f, g, x := &trie.Forest{}, &trie.Forest{}, api.None
		for _, k := range keys[:min(len(keys), 9)] {
			x = mustPut(t, f, x, k, anyKey(chance))
		}
		y := mustApply(t, g, api.None, mustSince(t, f, x, 0), mustRoot(t, f, x))
		size := f.Size()
		for range 3 {
			x = mustPut(t, f, x, keys[chance.Intn(len(keys))], anyKey(chance))
		}
		rows, root, has := mustSince(t, f, x, size), mustRoot(t, f, x), pairsOf(f, x)
		for i, r := range rows {
			for at := range 256 {
				changed := slices.Clone(rows)
				changed[i].Key, changed[i].Prefix.Bits = turned(r.Key, at), turned(r.Prefix.Bits, at)
				wantRefusedOrSame(t, g, y, changed, root, has)
				changed[i] = r
				changed[i].Value, changed[i].Left = turned(r.Value, at), turned(r.Left, at)
				wantRefusedOrSame(t, g, y, changed, root, has)
				changed[i] = r
				changed[i].Right = turned(r.Right, at)
				wantRefusedOrSame(t, g, y, changed, root, has)
			}
		}
		for range 200 {
			changed := spoil(chance, spoil(chance, slices.Clone(rows)))
			wantRefusedOrSame(t, g, chance.Intn(g.Size()+1)-1, changed, root, has)
		}
	}
}

// wantRefusedOrSame is quicker than wantApply: it asks for the answer alone.
func wantRefusedOrSame(t *testing.T, f *trie.Forest, tree int, rows []delta.Row, root api.Hash, has map[api.Hash]api.Hash) {
	t.Helper()
	g := *f
	x, e := delta.Apply(&g, tree, rows, root)
	if e == api.OK {
		wantTree(t, &g, x, has)
	} else if x != 0 || e != api.ErrProof {
		t.Fatalf("Apply of %v: %d, %d", rows, x, e)
	}
}
