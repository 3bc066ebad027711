package proof_test

import (
	"bytes"
	"encoding/hex"
	"fmt"
	"math/rand"
	"reflect"
	"slices"
	"strings"
	"testing"

	"rolodex/api"
	"rolodex/hash"
	"rolodex/proof"
	"rolodex/trie"
)

// digits answers the bits of k, one character each, from bit 0 on.
func digits(k api.Hash) string {
	var s strings.Builder
	for _, b := range k {
		fmt.Fprintf(&s, "%08b", b)
	}
	return s.String()
}

// keyOf answers the key that begins with these digits, and has noughts behind them.
func keyOf(s string) api.Hash {
	var k api.Hash
	for i, c := range s {
		if c == '1' {
			k[i/8] |= 128 >> (i % 8)
		}
	}
	return k
}

func prefixOf(s string) api.Prefix {
	return api.Prefix{Len: len(s), Bits: keyOf(s)}
}

// turned answers k with one bit turned.
func turned(k api.Hash, i int) api.Hash {
	k[i/8] ^= 128 >> (i % 8)
	return k
}

func anyKey(chance *rand.Rand) api.Hash {
	var k api.Hash
	chance.Read(k[:])
	return k
}

func hashOf(digits string) api.Hash {
	b, e := hex.DecodeString(digits)
	if e != nil {
		panic(e)
	}
	return api.Hash(b)
}

// leafText and innerText have the bytes as layer 11's chapter has them.
func leafText(key, value api.Hash) []byte {
	return slices.Concat([]byte{108, 0, 0, 0, 32}, key[:], []byte{0, 0, 0, 32}, value[:])
}

func innerText(p api.Prefix, left, right api.Hash) []byte {
	b := []byte{110, 0, 0, 0, 2, byte(p.Len >> 8), byte(p.Len), 0, 0, 0, 32}
	four := []byte{0, 0, 0, 32}
	return slices.Concat(b, p.Bits[:], four, left[:], four, right[:])
}

// model is a node of a tree, without numbers.
type model struct {
	leaf        bool
	key, value  api.Hash
	first       string // the bits of its prefix
	left, right *model
	hash        api.Hash
}

// modelOf makes the tree of these keys and values from the top down.
func modelOf(has map[api.Hash]api.Hash) *model {
	var all []string
	for k := range has {
		all = append(all, digits(k))
	}
	slices.Sort(all)
	return modelOfSorted(all, has)
}

func modelOfSorted(all []string, has map[api.Hash]api.Hash) *model {
	if len(all) == 0 {
		return nil
	}
	if len(all) == 1 {
		key := keyOf(all[0])
		return &model{leaf: true, key: key, value: has[key], hash: hash.Sum(leafText(key, has[key]))}
	}
	first, last := all[0], all[len(all)-1]
	n := 0
	for first[n] == last[n] {
		n++
	}
	middle := slices.IndexFunc(all, func(s string) bool { return s[n] == '1' })
	m := &model{first: first[:n]}
	m.left, m.right = modelOfSorted(all[:middle], has), modelOfSorted(all[middle:], has)
	m.hash = hash.Sum(innerText(prefixOf(m.first), m.left.hash, m.right.hash))
	return m
}

// rootOf answers a model's root; the one of the tree without keys was reckoned by another program.
func rootOf(m *model) api.Hash {
	if m == nil {
		return hashOf("3f79bb7b435b05321651daefd374cdc681dc06faa65e374e38337b88ca046dea")
	}
	return m.hash
}

// proofOf answers the proof of a key in a model's tree.
func proofOf(m *model, key api.Hash) proof.Proof {
	if m == nil {
		return proof.Proof{}
	}
	if m.leaf {
		return proof.Proof{End: 1, Key: m.key, Value: m.value}
	}
	d := digits(key)
	if !strings.HasPrefix(d, m.first) {
		return proof.Proof{End: 2, Prefix: prefixOf(m.first), Left: m.left.hash, Right: m.right.hash}
	}
	next, other := m.left, m.right
	if d[len(m.first)] == '1' {
		next, other = other, next
	}
	p := proofOf(next, key)
	p.Steps = slices.Insert(p.Steps, 0, proof.Step{Prefix: prefixOf(m.first), Other: other.hash})
	return p
}

// leadsRight tells whether the bit i of the key is there, and 1.
func leadsRight(key api.Hash, i int) bool {
	return i >= 0 && i < 256 && digits(key)[i] == '1'
}

// textsOf answers the texts of a proof, whose lengths all have two bytes.
func textsOf(p proof.Proof, key api.Hash) [][]byte {
	texts := [][]byte{{101}}
	switch p.End {
	case 0:
	case 1:
		texts[0] = leafText(p.Key, p.Value)
	case 2:
		texts[0] = innerText(p.Prefix, p.Left, p.Right)
	default:
		return nil
	}
	for i := len(p.Steps) - 1; i >= 0; i-- {
		s, below := p.Steps[i], hash.Sum(texts[len(texts)-1])
		if leadsRight(key, s.Prefix.Len) {
			texts = append(texts, innerText(s.Prefix, s.Other, below))
		} else {
			texts = append(texts, innerText(s.Prefix, below, s.Other))
		}
	}
	return texts
}

// topOf answers the only root of which a proof might be right: a zero one of another End.
func topOf(p proof.Proof, key api.Hash) api.Hash {
	texts := textsOf(p, key)
	if len(texts) == 0 {
		return api.Hash{}
	}
	return hash.Sum(texts[len(texts)-1])
}

// bitsOf answers the bits of a prefix, and whether it is formed and has fewer than 256 bits.
func bitsOf(p api.Prefix) (string, bool) {
	if p.Len < 0 || p.Len >= 256 {
		return "", false
	}
	d := digits(p.Bits)
	return d[:p.Len], !strings.Contains(d[p.Len:], "1")
}

// stands tells whether a proof is right of a key and of the root that topOf answers: the chapter's
// words one by one, on texts of 0s and 1s.
func stands(p proof.Proof, key api.Hash) bool {
	d, first := digits(key), ""
	for _, s := range p.Steps {
		b, ok := bitsOf(s.Prefix)
		if !ok || !strings.HasPrefix(d, b) || !strings.HasPrefix(b, first) {
			return false
		}
		first = d[:len(b)+1]
	}
	switch p.End {
	case 0:
		return len(p.Steps) == 0
	case 1:
		return strings.HasPrefix(digits(p.Key), first)
	case 2:
		b, ok := bitsOf(p.Prefix)
		return ok && !strings.HasPrefix(d, b) && strings.HasPrefix(b, first)
	}
	return false
}

// wantProof asks for a proof, its list of no steps being nil or empty.
func wantProof(t *testing.T, got, want proof.Proof) {
	t.Helper()
	if len(got.Steps) == 0 {
		got.Steps = nil
	}
	if len(want.Steps) == 0 {
		want.Steps = nil
	}
	if !reflect.DeepEqual(got, want) {
		t.Fatalf("the proof is %v, not %v", got, want)
	}
}

func wantCheck(t *testing.T, p proof.Proof, key, root, value api.Hash, is, right bool) {
	t.Helper()
	if v, i, r := proof.Check(p, key, root); v != value || i != is || r != right {
		t.Fatalf("Check of %v for the key %x and the root %x: %x, %v, %v", p, key, root, v, i, r)
	}
}

// wantAsModel asks what the model says of a proof, a key and a root, and answers whether it is right.
func wantAsModel(t *testing.T, p proof.Proof, key, root api.Hash) bool {
	t.Helper()
	switch {
	case !stands(p, key) || topOf(p, key) != root:
		wantCheck(t, p, key, root, api.Hash{}, false, false)
		return false
	case p.End == 1 && p.Key == key:
		wantCheck(t, p, key, root, p.Value, true, true)
	default:
		wantCheck(t, p, key, root, api.Hash{}, false, true)
	}
	return true
}

func wantTexts(t *testing.T, p proof.Proof, key api.Hash) {
	t.Helper()
	if got, want := proof.Texts(p, key), textsOf(p, key); !slices.EqualFunc(got, want, bytes.Equal) {
		t.Fatalf("the texts of %v for the key %x are %x, not %x", p, key, got, want)
	}
}

func mustShow(t *testing.T, f *trie.Forest, tree int, key api.Hash) proof.Proof {
	t.Helper()
	p, e := proof.Show(f, tree, key)
	if e != api.OK {
		t.Fatalf("Show of %x in %d: %d", key, tree, e)
	}
	return p
}

func mustPut(t *testing.T, f *trie.Forest, tree int, key, value api.Hash) int {
	t.Helper()
	x, e := f.Put(tree, key, value)
	if e != api.OK {
		t.Fatalf("Put of %x in %d: %d", key, tree, e)
	}
	return x
}

// putAll puts keys of a text's first bits, with any values, and answers the tree and what it has.
func putAll(t *testing.T, f *trie.Forest, firsts ...string) (int, map[api.Hash]api.Hash) {
	t.Helper()
	tree, has := api.None, map[api.Hash]api.Hash{}
	for i, s := range firsts {
		has[keyOf(s)] = api.Hash{100, byte(i)}
		tree = mustPut(t, f, tree, keyOf(s), has[keyOf(s)])
	}
	return tree, has
}

// clone answers a proof that shares no steps with p.
func clone(p proof.Proof) proof.Proof {
	p.Steps = slices.Clone(p.Steps)
	return p
}

// sortsOfKeys has sets of keys of many shapes: some that share much, some that share nothing, a
// chain of them that goes down bit by bit, and those at both ends.
func sortsOfKeys() [][]api.Hash {
	chance := rand.New(rand.NewSource(121))
	ones := keyOf(strings.Repeat("1", 256))
	var chained, dense, low, any []api.Hash
	for i := range 256 {
		chained = append(chained, turned(ones, i))
		dense = append(dense, api.Hash{31: byte(i)})
		low = append(low, api.Hash{byte(i)})
	}
	for range 120 {
		any = append(any, anyKey(chance))
	}
	k := anyKey(chance)
	around := []api.Hash{k}
	for _, i := range []int{0, 1, 7, 8, 9, 15, 16, 127, 128, 254, 255} {
		around = append(around, turned(k, i))
	}
	return [][]api.Hash{
		{}, {{}}, {ones}, {{}, ones}, {{}, {31: 1}}, {ones, turned(ones, 255)}, {{}, {128}},
		around, any, dense, low, append(chained, ones),
	}
}

// asked answers keys to ask a tree for: some of its own, some that part from these at a bit, and
// some others.
func asked(chance *rand.Rand, keys []api.Hash) []api.Hash {
	all := []api.Hash{{}, keyOf(strings.Repeat("1", 256)), anyKey(chance), anyKey(chance)}
	for _, i := range chance.Perm(len(keys))[:min(len(keys), 20)] {
		all = append(all, keys[i])
		for _, at := range []int{0, 7, 8, 254, 255, chance.Intn(256), chance.Intn(256), chance.Intn(9)} {
			all = append(all, turned(keys[i], at))
		}
	}
	return all
}
