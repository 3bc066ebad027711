package trie_test

import (
	"bytes"
	"maps"
	"math"
	"math/rand"
	"slices"
	"strings"
	"testing"

	"rolodex/api"
	"rolodex/hash"
	"rolodex/trie"
)

func TestP111TextOfALeaf(t *testing.T) {
	chance := rand.New(rand.NewSource(1111))
	for range 50 {
		n := trie.Node{Leaf: true, Key: anyKey(chance), Value: anyKey(chance)}
		want := leafText(n.Key, n.Value)
		if b := trie.Text(n, api.Hash{}, api.Hash{}); !bytes.Equal(b, want) {
			t.Fatalf("the text of %v: %x", n, b)
		}
		n.Prefix, n.Left, n.Right, n.Hash = prefixOf("0110"), 3, 4, anyKey(chance)
		if b := trie.Text(n, anyKey(chance), anyKey(chance)); !bytes.Equal(b, want) {
			t.Fatalf("the text of a leaf hangs on more than key and value: %x", b)
		}
	}
}

func TestP111TextOfAnInnerNode(t *testing.T) {
	chance := rand.New(rand.NewSource(1112))
	ones := strings.Repeat("1", 256)
	for _, size := range []int{0, 1, 2, 7, 8, 9, 127, 128, 254, 255, 256} {
		n := trie.Node{Prefix: prefixOf(ones[:size])}
		left, right := anyKey(chance), anyKey(chance)
		want := innerText(n.Prefix, left, right)
		if b := trie.Text(n, left, right); !bytes.Equal(b, want) {
			t.Fatalf("the text of %v: %x", n, b)
		}
		n.Key, n.Value, n.Left, n.Right, n.Hash = anyKey(chance), anyKey(chance), 5, 6, anyKey(chance)
		if b := trie.Text(n, left, right); !bytes.Equal(b, want) {
			t.Fatalf("the text hangs on more than prefix and hashes: %x", b)
		}
	}
}

// Whether a node may be is not asked; but what is no length in two bytes is no node's text.
func TestP111TextOfOtherPrefixes(t *testing.T) {
	bits := anyKey(rand.New(rand.NewSource(1113)))
	for _, size := range []int{3, 257, 258, 511, 512, 65535} {
		n := trie.Node{Prefix: api.Prefix{Len: size, Bits: bits}}
		if b := trie.Text(n, bits, api.Hash{}); !bytes.Equal(b, innerText(n.Prefix, bits, api.Hash{})) {
			t.Fatalf("the text of %v: %x", n, b)
		}
	}
	for _, size := range []int{-1, -256, 65536, 65536 + 255, math.MaxInt, math.MinInt} {
		n := trie.Node{Prefix: api.Prefix{Len: size, Bits: bits}}
		for whole := range 257 {
			m := trie.Node{Prefix: api.Prefix{Len: whole, Bits: bits}}
			if bytes.Equal(trie.Text(n, bits, bits), trie.Text(m, bits, bits)) {
				t.Fatalf("the length %d has the text of %d", size, whole)
			}
		}
	}
}

func TestP111TextIsNewMemory(t *testing.T) {
	for _, n := range []trie.Node{{Leaf: true}, {}} {
		a, b := trie.Text(n, api.Hash{}, api.Hash{}), trie.Text(n, api.Hash{}, api.Hash{})
		a[0]++
		if bytes.Equal(a, b) || b[0] != trie.Text(n, api.Hash{}, api.Hash{})[0] {
			t.Fatal("two texts share their bytes")
		}
	}
}

func TestP111Empty(t *testing.T) {
	if h := trie.Empty(); h != rootOf(nil) || h != hash.Sum([]byte{101}) {
		t.Errorf("Empty: %x", h)
	}
}

func TestP111AZeroForestIsReady(t *testing.T) {
	var f trie.Forest
	wantSize(t, &f, 0)
	wantAll(t, &f, api.None, nil)
	x := mustPut(t, &f, api.None, api.Hash{1}, api.Hash{9})
	if x != 0 {
		t.Error("the first node's number is", x)
	}
	wantAll(t, &f, 0, map[api.Hash]api.Hash{{1}: {9}})
}

// These roots were reckoned by another program, with another SHA-256.
func TestP112RootsOfSomeTrees(t *testing.T) {
	f := &trie.Forest{}
	x := mustPut(t, f, api.None, api.Hash{1}, api.Hash{9})
	wantRoot(t, f, x, "fc7271ba1e542812818be8d86d0c72758087d8dda1f528c6ec4e574ac1ff9da3")
	x = mustPut(t, f, x, api.Hash{128}, api.Hash{8})
	wantRoot(t, f, x, "de5a6d69fa3591b369abd64cb9c696d75eeb051939c183af3b9aad67597c79a6")
	x = mustPut(t, f, x, api.Hash{3}, api.Hash{7})
	wantRoot(t, f, x, "0f9bf5b9f6c0d2bb9dc9fdc30f6f998b8b030450bcf31878f40d650d8146add8")
	x = mustPut(t, f, api.None, api.Hash{}, api.Hash{1})
	x = mustPut(t, f, x, api.Hash{31: 1}, api.Hash{2})
	wantRoot(t, f, x, "e3448497bf1a46d3c18275aa4ffecd3382262f4d725463df6fca10af2563e14c")
	x, y := api.None, api.None
	for i := range 100 {
		x = mustPut(t, f, x, hash.Sum([]byte{byte(i)}), hash.Sum([]byte{byte(i), 0}))
	}
	for i := range 256 {
		y = mustPut(t, f, y, api.Hash{31: byte(i)}, api.Hash{byte(i)})
	}
	wantRoot(t, f, x, "e9f7ff779ce6a1be1e7474536e946a752940b6f6ce992e53352614d31b80c2c3")
	wantRoot(t, f, y, "efe5f679768821ee2a9f847c184acfd5aa8fe6e3df7a5adb070ce00911984d8b")
}

func wantRoot(t *testing.T, f *trie.Forest, tree int, digits string) {
	t.Helper()
	if r, e := f.Root(tree); r != hashOf(digits) || e != api.OK {
		t.Errorf("Root of %d: %x, %d", tree, r, e)
	}
}

// Each set of keys is put one by one, and then has each value changed: each tree on the way has
// just what it should.
func TestP112PutKeyByKey(t *testing.T) {
	for _, keys := range sortsOfKeys() {
		f, tree, has := &trie.Forest{}, api.None, map[api.Hash]api.Hash{}
		for round := range 2 {
			for i, k := range keys {
				v := api.Hash{byte(i + 1), byte(round)}
				tree, has[k] = mustPut(t, f, tree, k, v), v
				if i < 12 || i%50 == 0 || i == len(keys)-1 {
					wantAll(t, f, tree, has)
				}
			}
		}
	}
}

// Which nodes a Put has anew: just those that the tree given hasn't, behind all others.
func TestP112PutTakesNoMoreNodes(t *testing.T) {
	chance := rand.New(rand.NewSource(1121))
	for _, keys := range sortsOfKeys() {
		f, tree, has := &trie.Forest{}, api.None, map[api.Hash]api.Hash{}
		for range min(3*len(keys), 100) {
			k, v := keys[chance.Intn(len(keys))], api.Hash{byte(chance.Intn(3))}
			elder := wantTree(t, f, tree, modelOf(has))
			size := f.Size()
			x := mustPut(t, f, tree, k, v)
			has[k] = v
			numbers := wantTree(t, f, x, modelOf(has))
			wantNew(t, f, size, elder, numbers)
			tree = x
		}
	}
}

// wantNew asks that of a tree's numbers those that the elder tree hasn't are all from size on, and
// that no hash of the elder tree's is among them.
func wantNew(t *testing.T, f *trie.Forest, size int, elder, numbers []int) {
	t.Helper()
	known := map[api.Hash]int{}
	for _, i := range elder {
		n, _ := f.Node(i)
		known[n.Hash] = 1
	}
	var more []int
	for _, i := range numbers {
		n, _ := f.Node(i)
		if slices.Contains(elder, i) {
			continue
		}
		if known[n.Hash] == 1 {
			t.Fatalf("the node %d is the elder tree's, anew: %v", i, n)
		}
		more = append(more, i)
	}
	slices.Sort(more)
	for at, i := range more {
		if i != size+at {
			t.Fatal("behind", size, "nodes there stand", more)
		}
	}
	wantSize(t, f, size+len(more))
}

// Two keys that part at each bit in turn, in both orders.
func TestP112PutForksAtEachBit(t *testing.T) {
	chance := rand.New(rand.NewSource(1122))
	for i := range 256 {
		k := anyKey(chance)
		for _, pair := range [][2]api.Hash{{k, turned(k, i)}, {turned(k, i), k}} {
			f := &trie.Forest{}
			x := mustPut(t, f, api.None, pair[0], api.Hash{1})
			x = mustPut(t, f, x, pair[1], api.Hash{2})
			wantAll(t, f, x, map[api.Hash]api.Hash{pair[0]: {1}, pair[1]: {2}})
			n, _ := f.Node(x)
			if n.Prefix.Len != i || x != 2 {
				t.Fatal("a fork at", i, "has the length", n.Prefix.Len, "and the number", x)
			}
		}
	}
}

// A key that parts from an inner node: above it, below it, and within what it shares.
func TestP112PutAboveAnInnerNode(t *testing.T) {
	for _, more := range []string{"1", "01", "001", "0011", "00101", "001000", "00100001", "00100111"} {
		f := &trie.Forest{}
		x, has := putAll(t, f, "0010", "001001", "00100101")
		wantAll(t, f, x, has)
		has[keyOf(more)] = api.Hash{7}
		wantAll(t, f, mustPut(t, f, x, keyOf(more), api.Hash{7}), has)
	}
}

// What is there already, with that value, is nothing anew: its nodes are all the tree's.
func TestP112PutWhatIsThere(t *testing.T) {
	f := &trie.Forest{}
	x, has := putAll(t, f, "0", "1", "01", "11", "111")
	size := f.Size()
	for k, v := range has {
		if y := mustPut(t, f, x, k, v); y != x {
			t.Error("the same tree, anew:", y)
		}
		wantSize(t, f, size)
	}
	y := mustPut(t, f, x, keyOf("01"), api.Hash{})
	if y == x || f.Size() == size {
		t.Error("a zero value is another one")
	}
	has[keyOf("01")] = api.Hash{}
	wantAll(t, f, y, has)
}

// A node that the forest has, but not the tree given, stands anew.
func TestP112PutIsOfTheTreeAlone(t *testing.T) {
	f := &trie.Forest{}
	for i := range 4 {
		if x := mustPut(t, f, api.None, api.Hash{1}, api.Hash{2}); x != i {
			t.Error("a tree of one leaf has the number", x, "and not", i)
		}
	}
	a := mustPut(t, f, 0, api.Hash{1}, api.Hash{3})
	b := mustPut(t, f, a, api.Hash{1}, api.Hash{2})
	if a != 4 || b != 5 {
		t.Error("a value there and back:", a, b)
	}
}

// Any node is a tree: what is put on a part leaves all else of the whole out.
func TestP112PutOnAPart(t *testing.T) {
	f := &trie.Forest{}
	x, _ := putAll(t, f, "0001", "0010", "0011", "1")
	n, _ := f.Node(x)
	for _, more := range []string{"0", "0010", "00111", "1", "11"} {
		has := map[api.Hash]api.Hash{keyOf("0001"): {100}, keyOf("0010"): {100, 1}, keyOf("0011"): {100, 2}}
		wantAll(t, f, n.Left, has)
		has[keyOf(more)] = api.Hash{5}
		wantAll(t, f, mustPut(t, f, n.Left, keyOf(more), api.Hash{5}), has)
	}
}

func wrongTrees(f *trie.Forest) []int {
	return []int{-2, -3, f.Size(), f.Size() + 1, mostNodes, math.MaxInt, math.MinInt}
}

func TestP112WrongTrees(t *testing.T) {
	f := &trie.Forest{}
	for range 2 {
		nodes := state(f)
		for _, tree := range wrongTrees(f) {
			x, e := f.Put(tree, api.Hash{}, api.Hash{})
			wantError(t, "Put", x, e, api.ErrArg)
			if r, e := f.Root(tree); r != (api.Hash{}) || e != api.ErrArg {
				t.Errorf("Root of %d: %x, %d", tree, r, e)
			}
			wantGet(t, f, tree, api.Hash{}, api.Hash{}, false)
			if list := f.List(tree); len(list) > 0 {
				t.Errorf("List of %d: %v", tree, list)
			}
			if n, ok := f.Node(tree); ok || n != (trie.Node{}) {
				t.Errorf("Node of %d: %v, %v", tree, n, ok)
			}
		}
		if !slices.Equal(state(f), nodes) {
			t.Fatal("what was refused changed the forest")
		}
		putAll(t, f, "", "1", "11")
	}
	if n, ok := f.Node(api.None); ok || n != (trie.Node{}) {
		t.Error("Node of None:", n, ok)
	}
}

func TestP112GetOfWhatIsNotThere(t *testing.T) {
	f := &trie.Forest{}
	wantGet(t, f, api.None, api.Hash{}, api.Hash{}, false)
	x, has := putAll(t, f, "00100", "00101", "0111")
	for _, s := range []string{"", "1", "001", "001011", "0010011", "01", "0110", "01111", "011101"} {
		if _, ok := has[keyOf(s)]; !ok {
			wantGet(t, f, x, keyOf(s), api.Hash{}, false)
		}
	}
	for k := range has {
		for i := range 256 {
			if _, ok := has[turned(k, i)]; !ok {
				wantGet(t, f, x, turned(k, i), api.Hash{}, false)
			}
		}
	}
	wantGet(t, f, mustPut(t, f, x, api.Hash{}, api.Hash{}), api.Hash{}, api.Hash{}, true)
}

func TestP112ListIsNewMemory(t *testing.T) {
	f := &trie.Forest{}
	x, has := putAll(t, f, "", "1", "11")
	list := f.List(x)
	list[0], list[1] = list[2], trie.Pair{}
	wantAll(t, f, x, has)
	if list := f.List(api.None); len(list) > 0 {
		t.Error("the tree without keys has", list)
	}
}

func TestP112AddOfALeaf(t *testing.T) {
	chance := rand.New(rand.NewSource(1123))
	f := &trie.Forest{}
	for i := range 40 {
		k, v := anyKey(chance), anyKey(chance)
		n := trie.Node{Leaf: true, Key: k, Value: v}
		if i%2 == 1 {
			n.Prefix, n.Left, n.Right, n.Hash = api.Prefix{Len: 300, Bits: k}, i-2, math.MaxInt, v
		}
		wantAll(t, f, mustAdd(t, f, n), map[api.Hash]api.Hash{k: v})
	}
	if x := mustAdd(t, f, trie.Node{Leaf: true}); x != 40 {
		t.Error("a zero leaf has the number", x)
	}
	if x := mustAdd(t, f, trie.Node{Leaf: true}); x != 41 {
		t.Error("another zero leaf has the number", x)
	}
}

func TestP112AddOfAnInnerNode(t *testing.T) {
	chance := rand.New(rand.NewSource(1124))
	for i := range 256 {
		f := &trie.Forest{}
		k := keyOf(digits(anyKey(chance))[:i] + "0" + digits(anyKey(chance))[i+1:])
		mustAdd(t, f, trie.Node{Leaf: true, Key: k, Value: api.Hash{1}})
		mustAdd(t, f, trie.Node{Leaf: true, Key: turned(k, i), Value: api.Hash{2}})
		n := trie.Node{Prefix: prefixOf(digits(k)[:i]), Left: 0, Right: 1}
		has := map[api.Hash]api.Hash{k: {1}, turned(k, i): {2}}
		wantAll(t, f, mustAdd(t, f, n), has)
		n.Key, n.Value, n.Hash = k, k, k
		wantAll(t, f, mustAdd(t, f, n), has)
		n.Left, n.Right = 1, 0
		x, e := f.Add(n)
		wantError(t, "Add with its children's places changed", x, e, api.ErrArg)
		wantSize(t, f, 4)
	}
}

// addAll adds the tree of a model, its leaves first.
func addAll(t *testing.T, f *trie.Forest, m *model) int {
	if m == nil {
		return api.None
	}
	if m.leaf {
		return mustAdd(t, f, trie.Node{Leaf: true, Key: m.key, Value: m.value})
	}
	right := addAll(t, f, m.right)
	return mustAdd(t, f, trie.Node{Prefix: prefixOf(m.first), Right: right, Left: addAll(t, f, m.left)})
}

func TestP112AddOfWholeTrees(t *testing.T) {
	for _, keys := range sortsOfKeys() {
		f, has := &trie.Forest{}, map[api.Hash]api.Hash{}
		for i, k := range keys {
			has[k] = api.Hash{byte(i)}
		}
		x := addAll(t, f, modelOf(has))
		wantSize(t, f, 2*len(has)-1)
		wantAll(t, f, x, has)
		more := maps.Clone(has)
		more[api.Hash{1, 2, 3, 4}] = api.Hash{5}
		wantAll(t, f, mustPut(t, f, x, api.Hash{1, 2, 3, 4}, api.Hash{5}), more)
	}
}

// Below the prefix 0010 there are, at the numbers 0 to 8: leaves and inner nodes of many places.
func TestP112AddOfWhatMayNotBe(t *testing.T) {
	f := &trie.Forest{}
	for _, s := range []string{"0010", "00100001", "00101", "0010111", "0011", "1"} {
		mustAdd(t, f, trie.Node{Leaf: true, Key: keyOf(s)})
	}
	mustAdd(t, f, trie.Node{Prefix: prefixOf("0010000"), Left: 0, Right: 1})
	mustAdd(t, f, trie.Node{Prefix: prefixOf("00101"), Left: 2, Right: 3})
	mustAdd(t, f, trie.Node{Prefix: prefixOf("0010"), Left: 0, Right: 7})
	holders := []string{digits(keyOf("0010")), digits(keyOf("00100001")), digits(keyOf("00101")),
		digits(keyOf("0010111")), digits(keyOf("0011")), digits(keyOf("1")), "0010000", "00101", "0010"}
	for _, first := range []string{"", "0", "001", "0010", "00100", "001000", "0010000", "00101", "001011", "1", "0000"} {
		for left := -2; left < 11; left++ {
			for right := -2; right < 11; right++ {
				g := *f
				x, e := g.Add(trie.Node{Prefix: prefixOf(first), Left: left, Right: right})
				isHeld := left >= 0 && left < 9 && right >= 0 && right < 9 &&
					strings.HasPrefix(holders[left], first+"0") && strings.HasPrefix(holders[right], first+"1")
				if isHeld && (x != 9 || e != api.OK) || !isHeld && (x != 0 || e != api.ErrArg) {
					t.Fatalf("Add of %q over %d and %d: %d, %d", first, left, right, x, e)
				}
			}
		}
	}
	wantSize(t, f, 9)
}

func TestP112AddOfWrongPrefixes(t *testing.T) {
	f := &trie.Forest{}
	x, _ := putAll(t, f, "00100", "00101")
	n, _ := f.Node(x)
	nodes := state(f)
	var wrong []api.Prefix
	for i := n.Prefix.Len; i < 256; i++ {
		wrong = append(wrong, api.Prefix{Len: n.Prefix.Len, Bits: turned(n.Prefix.Bits, i)})
	}
	for i := range n.Prefix.Len {
		wrong = append(wrong, api.Prefix{Len: n.Prefix.Len, Bits: turned(n.Prefix.Bits, i)})
	}
	for _, size := range []int{-1, 0, 3, 5, 255, 256, 257, 260, 65540, math.MaxInt, math.MinInt} {
		wrong = append(wrong, api.Prefix{Len: size, Bits: n.Prefix.Bits})
	}
	wrong = append(wrong, api.Prefix{Len: 256}, api.Prefix{Len: 256, Bits: keyOf("00100")})
	for _, p := range wrong {
		x, e := f.Add(trie.Node{Prefix: p, Left: n.Left, Right: n.Right})
		wantError(t, "Add", x, e, api.ErrArg)
	}
	if !slices.Equal(state(f), nodes) {
		t.Fatal("what was refused changed the forest")
	}
	y := mustAdd(t, f, trie.Node{Prefix: n.Prefix, Left: n.Left, Right: n.Right})
	if y != x+1 {
		t.Error("the same node, once more:", y)
	}
}

func TestP112NilForest(t *testing.T) {
	var f *trie.Forest
	for _, tree := range []int{api.None, 0, 1, -2, math.MaxInt} {
		x, e := f.Put(tree, api.Hash{1}, api.Hash{2})
		wantError(t, "Put", x, e, api.ErrArg)
		wantGet(t, f, tree, api.Hash{}, api.Hash{}, false)
		if r, e := f.Root(tree); r != (api.Hash{}) || e != api.ErrArg {
			t.Errorf("Root: %x, %d", r, e)
		}
		if list := f.List(tree); len(list) > 0 {
			t.Error("List:", list)
		}
		if n, ok := f.Node(tree); ok || n != (trie.Node{}) {
			t.Error("Node:", n, ok)
		}
	}
	wantSize(t, f, 0)
	for _, leaf := range []bool{true, false} {
		x, e := f.Add(trie.Node{Leaf: leaf, Right: 1})
		wantError(t, "Add", x, e, api.ErrArg)
	}
}

// The forest is filled up to a few nodes: what takes one more than are left is refused, what takes
// just as many isn't.
func TestP112FullForest(t *testing.T) {
	if testing.Short() {
		t.Skip("fills a forest")
	}
	f := &trie.Forest{}
	x, has := putAll(t, f, "000", "001", "01", "1")
	for f.Size() < mostNodes-5 {
		mustPut(t, f, api.None, api.Hash{}, api.Hash{})
	}
	for left := 5; left > 0; left-- {
		for _, c := range putsByNodes(x) {
			if c.more > left {
				y, e := f.Put(c.tree, c.key, api.Hash{9})
				wantError(t, "Put", y, e, api.ErrFull)
			}
		}
		wantSize(t, f, mostNodes-left)
		g, c := *f, putsByNodes(x)[left-1]
		y, e := g.Put(c.tree, c.key, api.Hash{9})
		if e != api.OK || y != mostNodes-1 || g.Size() != mostNodes {
			t.Fatal("of", left, "nodes all are taken:", y, e)
		}
		mustAdd(t, f, trie.Node{Leaf: true})
	}
	wantFull(t, f, x, has)
}

type putOfNodes struct {
	tree int
	key  api.Hash
	more int
}

// putsByNodes has what may be put on a tree of the keys 000, 001, 01 and 1, and how many nodes it
// takes: the first five take from one to five.
func putsByNodes(x int) []putOfNodes {
	return []putOfNodes{
		{api.None, keyOf("0001"), 1}, {x, keyOf("1"), 2}, {x, keyOf("11"), 3}, {x, keyOf("000"), 4},
		{x, keyOf("0001"), 5}, {0, keyOf("000"), 1}, {0, keyOf("0001"), 2}, {x, keyOf("01"), 3},
		{x, keyOf("011"), 4}, {x, keyOf("0010001"), 5},
	}
}

func wantFull(t *testing.T, f *trie.Forest, x int, has map[api.Hash]api.Hash) {
	wantSize(t, f, mostNodes)
	top, _ := f.Node(x)
	y, e := f.Add(trie.Node{Leaf: true})
	wantError(t, "Add of a leaf", y, e, api.ErrFull)
	y, e = f.Add(top)
	wantError(t, "Add of an inner node", y, e, api.ErrFull)
	top.Left, top.Right = top.Right, top.Left
	y, e = f.Add(top)
	wantError(t, "Add of what may not be", y, e, api.ErrArg)
	y, e = f.Put(mostNodes, api.Hash{}, api.Hash{})
	wantError(t, "Put on no tree", y, e, api.ErrArg)
	y, e = f.Put(api.None, api.Hash{}, api.Hash{})
	wantError(t, "Put on none", y, e, api.ErrFull)
	for k, v := range has {
		y, e = f.Put(x, k, api.Hash{8})
		wantError(t, "Put of another value", y, e, api.ErrFull)
		if y, e := f.Put(x, k, v); y != x || e != api.OK {
			t.Error("Put of what is there:", y, e)
		}
	}
	wantAll(t, f, x, has)
	if n, ok := f.Node(mostNodes - 1); !ok || !n.Leaf {
		t.Error("the last node:", n, ok)
	}
}
