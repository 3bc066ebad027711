package proof_test

import (
	"math"
	"math/rand"
	"slices"
	"strings"
	"testing"

	"rolodex/api"
	"rolodex/hash"
	"rolodex/proof"
	"rolodex/trie"
)

// otherSteps answers proofs whose steps are not p's.
func otherSteps(chance *rand.Rand, p proof.Proof) []proof.Proof {
	var all []proof.Proof
	change := func(do func(q *proof.Proof)) {
		q := clone(p)
		do(&q)
		all = append(all, q)
	}
	for i := range p.Steps {
		change(func(q *proof.Proof) { q.Steps[i].Other = turned(q.Steps[i].Other, chance.Intn(256)) })
		change(func(q *proof.Proof) { q.Steps[i].Prefix.Bits = turned(q.Steps[i].Prefix.Bits, chance.Intn(256)) })
		change(func(q *proof.Proof) { q.Steps[i].Prefix.Len++ })
		change(func(q *proof.Proof) { q.Steps[i].Prefix.Len-- })
		change(func(q *proof.Proof) { q.Steps[i].Prefix.Len += 256 })
		change(func(q *proof.Proof) { q.Steps[i].Prefix.Len += 65536 })
		change(func(q *proof.Proof) { q.Steps = slices.Delete(q.Steps, i, i+1) })
		change(func(q *proof.Proof) { q.Steps = slices.Insert(q.Steps, i, q.Steps[i]) })
		if i > 0 {
			change(func(q *proof.Proof) { q.Steps[i], q.Steps[i-1] = q.Steps[i-1], q.Steps[i] })
		}
	}
	change(func(q *proof.Proof) { q.Steps = slices.Insert(q.Steps, 0, proof.Step{Other: anyKey(chance)}) })
	change(func(q *proof.Proof) { q.Steps = append(q.Steps, proof.Step{Prefix: q.Prefix, Other: q.Left}) })
	return all
}

// otherEnds answers proofs whose end is not p's.
func otherEnds(chance *rand.Rand, p proof.Proof) []proof.Proof {
	var all []proof.Proof
	for _, end := range []int{0, 1, 2, 3, -1, 256, 257, 258} {
		if end != p.End {
			q := p
			q.End = end
			all = append(all, q)
		}
	}
	at := chance.Intn(256)
	switch p.End {
	case 1:
		q, r := p, p
		q.Key, r.Value = turned(p.Key, at), turned(p.Value, at)
		all = append(all, q, r, proof.Proof{Steps: p.Steps, End: 1, Key: p.Value, Value: p.Key})
	case 2:
		q, r, s, l, m := p, p, p, p, p
		q.Left, q.Right = p.Right, p.Left
		r.Left, s.Right = turned(p.Left, at), turned(p.Right, at)
		l.Prefix.Len++
		m.Prefix.Bits = turned(p.Prefix.Bits, at)
		all = append(all, q, r, s, l, m)
	}
	return all
}

// A proof that was changed anywhere is not right of its root any more, nor is a right one of
// another root.
func TestP121CheckOfChangedProofs(t *testing.T) {
	chance := rand.New(rand.NewSource(1213))
	for _, keys := range sortsOfKeys() {
		f, x := &trie.Forest{}, api.None
		for _, k := range keys {
			x = mustPut(t, f, x, k, anyKey(chance))
		}
		root, _ := f.Root(x)
		for _, k := range asked(chance, keys)[:min(30, 4+len(keys))] {
			p := mustShow(t, f, x, k)
			if !wantAsModel(t, p, k, root) {
				t.Fatalf("what is shown of %x isn't right", k)
			}
			for _, r := range []api.Hash{{}, rootOf(nil), turned(root, chance.Intn(256)), hash.Sum(nil)} {
				if r != root {
					wantCheck(t, p, k, r, api.Hash{}, false, false)
				}
			}
			for _, q := range slices.Concat(otherSteps(chance, p), otherEnds(chance, p)) {
				wantCheck(t, q, k, root, api.Hash{}, false, false)
			}
		}
	}
}

// A proof held against another key than the one it was made of: it is right just as the model says.
func TestP121CheckOfOtherKeys(t *testing.T) {
	chance := rand.New(rand.NewSource(1214))
	for _, keys := range sortsOfKeys() {
		f, x := &trie.Forest{}, api.None
		for _, k := range keys {
			x = mustPut(t, f, x, k, anyKey(chance))
		}
		root, _ := f.Root(x)
		all := asked(chance, keys)
		for range 300 {
			p := mustShow(t, f, x, all[chance.Intn(len(all))])
			wantAsModel(t, p, all[chance.Intn(len(all))], root)
		}
	}
}

// forgery is a proof that no tree has: its root is made by its own texts.
type forgery struct {
	what  string
	p     proof.Proof
	right bool
}

func stepAt(bits string) proof.Step {
	return proof.Step{Prefix: prefixOf(bits), Other: api.Hash{1, 2, 3}}
}

func leafAt(bits string, steps ...proof.Step) proof.Proof {
	return proof.Proof{Steps: steps, End: 1, Key: keyOf(bits), Value: api.Hash{9}}
}

func innerAt(p api.Prefix, steps ...proof.Step) proof.Proof {
	return proof.Proof{Steps: steps, End: 2, Prefix: p, Left: api.Hash{5}, Right: api.Hash{6}}
}

// forgedSteps are of the key 0101 0011 and noughts.
func forgedSteps() []forgery {
	all := strings.Repeat("0", 248)
	const key = "01010011"
	unformed, above := stepAt("0101"), stepAt(key+all)
	unformed.Prefix.Bits, above.Prefix.Len = keyOf(key), 257
	return []forgery{
		{"no steps", leafAt(key), true},
		{"a step", leafAt(key, stepAt("0101")), true},
		{"three steps", leafAt(key, stepAt(""), stepAt("01"), stepAt("01010")), true},
		{"each step one bit more", leafAt(key, stepAt(""), stepAt("0"), stepAt("01"), stepAt("010")), true},
		{"a step of 255 bits", leafAt(key, stepAt(key+all[1:])), true},
		{"a step of 256 bits", leafAt(key, stepAt(key+all)), false},
		{"a step of 256 bits behind another", leafAt(key, stepAt("01"), stepAt(key+all)), false},
		{"a step of 257 bits", leafAt(key, above), false},
		{"a step of 257 bits, all noughts", leafAt(key, proof.Step{Prefix: api.Prefix{Len: 257}}), false},
		{"a step with a 1 behind its length", leafAt(key, unformed), false},
		{"a second step with a 1 behind its length", leafAt(key, stepAt("0"), unformed), false},
		{"a step that doesn't hold the key", leafAt(key, stepAt("0100")), false},
		{"a step that doesn't hold the key, by its first bit", leafAt(key, stepAt("1")), false},
		{"a first step that doesn't hold the key", leafAt(key, stepAt("1"), stepAt("0101")), false},
		{"a last step that doesn't hold the key", leafAt(key, stepAt("01"), stepAt("0100")), false},
		{"a step on the other side", leafAt(key, stepAt("0101"), stepAt("01011")), false},
		{"two steps of one prefix", leafAt(key, stepAt("01"), stepAt("01")), false},
		{"two steps of no bits", leafAt(key, stepAt(""), stepAt("")), false},
		{"a shorter step behind a longer one", leafAt(key, stepAt("010"), stepAt("01")), false},
		{"no bits behind some", leafAt(key, stepAt("010"), stepAt("")), false},
		{"steps turned", leafAt(key, stepAt(""), stepAt("01010"), stepAt("01")), false},
	}
}

// forgedEnds are of the same key.
func forgedEnds() []forgery {
	all := strings.Repeat("0", 248)
	const key = "01010011"
	unformed := api.Prefix{Len: 3, Bits: keyOf("01110000" + "1")}
	long := api.Prefix{Len: 257, Bits: keyOf("1")}
	return []forgery{
		{"nothing", proof.Proof{}, true},
		{"nothing below a step", proof.Proof{Steps: []proof.Step{stepAt("01")}}, false},
		{"another key's leaf", leafAt("11"), true},
		{"another key's leaf below a step", leafAt("01011", stepAt("01")), true},
		{"a leaf with just the child's bits", leafAt("0101", stepAt("010")), true},
		{"a leaf on the other side", leafAt("0100", stepAt("010")), false},
		{"a leaf that the step doesn't hold", leafAt("0111", stepAt("010")), false},
		{"a leaf that the first step alone holds", leafAt("0111", stepAt("01"), stepAt("010")), false},
		{"a leaf that the last step alone doesn't hold", leafAt("1101", stepAt(""), stepAt("01")), false},
		{"a leaf of all bits but the last", leafAt(key+all[1:]+"1", stepAt("01")), true},
		{"a leaf below 255 bits, on the other side", leafAt(key+all[1:]+"1", stepAt(key+all[1:])), false},
		{"an inner node", innerAt(prefixOf("00")), true},
		{"an inner node of one bit", innerAt(prefixOf("1")), true},
		{"an inner node that holds the key", innerAt(prefixOf("01")), false},
		{"an inner node of no bits", innerAt(prefixOf("")), false},
		{"an inner node of 255 bits", innerAt(prefixOf("00000011" + all[1:])), true},
		{"an inner node of 255 bits that holds the key", innerAt(prefixOf(key + all[1:])), false},
		{"an inner node of 256 bits", innerAt(prefixOf("00000011" + all)), false},
		{"an inner node of 256 bits that holds the key", innerAt(prefixOf(key + all)), false},
		{"an inner node of 256 bits below a step", innerAt(prefixOf(key+all[1:]+"1"), stepAt("01")), false},
		{"an inner node of 257 bits", innerAt(long), false},
		{"an inner node with a 1 behind its length", innerAt(unformed), false},
		{"an inner node with a 1 behind its length below a step", innerAt(unformed, stepAt("0")), false},
		{"an inner node below a step", innerAt(prefixOf("0111"), stepAt("0")), true},
		{"an inner node below a step that holds the key", innerAt(prefixOf("0101"), stepAt("0")), false},
		{"an inner node that is the step's child", innerAt(prefixOf("01"), stepAt("0")), false},
		{"an inner node that is the step", innerAt(prefixOf("0"), stepAt("0")), false},
		{"an inner node on the other side", innerAt(prefixOf("00"), stepAt("0")), false},
		{"an inner node that the step doesn't hold", innerAt(prefixOf("1"), stepAt("0")), false},
		{"an inner node that the step doesn't hold, longer", innerAt(prefixOf("110"), stepAt("01")), false},
		{"an inner node that the last step doesn't hold", innerAt(prefixOf("011"), stepAt("0"), stepAt("010")), false},
		{"an inner node that is shorter than the step", innerAt(prefixOf("00"), stepAt("0101")), false},
	}
}

func TestP121CheckOfForgedProofs(t *testing.T) {
	key := keyOf("01010011")
	for _, c := range slices.Concat(forgedSteps(), forgedEnds()) {
		t.Run(c.what, func(t *testing.T) {
			wantTexts(t, c.p, key)
			if wantAsModel(t, c.p, key, topOf(c.p, key)) != c.right {
				t.Errorf("the model answers %v", !c.right)
			}
		})
	}
}

// forged answers a proof of which some parts are as they may be and some as they mayn't.
func forged(chance *rand.Rand, key api.Hash) proof.Proof {
	d, at := digits(key), 0
	bits := func() api.Prefix {
		at += chance.Intn(1+chance.Intn(90)) + 1
		p := prefixOf(d[:min(at, 256)])
		switch chance.Intn(60) {
		case 0:
			p.Bits = turned(p.Bits, min(at+chance.Intn(3), 255))
		case 1:
			p.Bits = turned(p.Bits, chance.Intn(256))
		case 2:
			at = max(at-1-chance.Intn(3), 0)
		case 3:
			p = prefixOf(d[:max(p.Len-1-chance.Intn(3), 0)])
		case 4:
			p.Len += chance.Intn(3)
		}
		return p
	}
	p := proof.Proof{End: chance.Intn(3), Key: key, Value: anyKey(chance), Left: anyKey(chance), Right: anyKey(chance)}
	for range chance.Intn(7) {
		p.Steps = append(p.Steps, proof.Step{Prefix: bits(), Other: anyKey(chance)})
	}
	if chance.Intn(2) == 0 {
		p.Key = turned(key, min(at+chance.Intn(4), 255))
	}
	p.Prefix = bits()
	if chance.Intn(4) > 0 && p.Prefix.Len > 0 && p.Prefix.Len <= 256 {
		p.Prefix.Bits = turned(p.Prefix.Bits, p.Prefix.Len-1)
	}
	return p
}

func TestP121CheckOfManyForgedProofs(t *testing.T) {
	chance := rand.New(rand.NewSource(1215))
	counts := map[[2]int]int{}
	for range 25000 {
		key := anyKey(chance)
		p := forged(chance, key)
		wantTexts(t, p, key)
		right := 0
		if wantAsModel(t, p, key, topOf(p, key)) {
			right = 1
		}
		counts[[2]int{p.End, right}]++
	}
	for end := range 3 {
		if counts[[2]int{end, 0}] < 500 || counts[[2]int{end, 1}] < 500 {
			t.Error("too few proofs of a sort:", counts)
		}
	}
}

// What belongs to another end counts for nothing.
func TestP121CheckOfOtherFields(t *testing.T) {
	chance := rand.New(rand.NewSource(1216))
	key, value := anyKey(chance), anyKey(chance)
	leaf := proof.Proof{End: 1, Key: key, Value: value}
	leaf.Prefix, leaf.Left, leaf.Right = api.Prefix{Len: 300, Bits: key}, anyKey(chance), anyKey(chance)
	wantCheck(t, leaf, key, hash.Sum(leafText(key, value)), value, true, true)
	other := turned(key, 0)
	inner := innerAt(prefixOf(digits(other)[:9]))
	inner.Key, inner.Value = key, value
	wantCheck(t, inner, key, hash.Sum(innerText(inner.Prefix, inner.Left, inner.Right)), api.Hash{}, false, true)
	nothing := inner
	nothing.End = 0
	wantCheck(t, nothing, key, rootOf(nil), api.Hash{}, false, true)
	nothing.Prefix.Len = math.MinInt
	wantCheck(t, nothing, key, rootOf(nil), api.Hash{}, false, true)
}

// A value of noughts is one.
func TestP121CheckOfAZeroValue(t *testing.T) {
	p := proof.Proof{End: 1}
	root := hash.Sum(leafText(api.Hash{}, api.Hash{}))
	wantCheck(t, p, api.Hash{}, root, api.Hash{}, true, true)
	wantCheck(t, p, api.Hash{1}, root, api.Hash{}, false, true)
}

func TestP121CheckOfOtherEnds(t *testing.T) {
	for _, end := range []int{3, 4, -1, -2, 255, 256, 257, 258, 1 << 32, 1<<32 + 1, math.MaxInt, math.MinInt} {
		for _, p := range []proof.Proof{{}, leafAt("01"), innerAt(prefixOf("1")), leafAt("01", stepAt("0"))} {
			roots := []api.Hash{{}, topOf(p, keyOf("01")), hash.Sum(nil), rootOf(nil)}
			p.End = end
			for _, root := range roots {
				wantCheck(t, p, keyOf("01"), root, api.Hash{}, false, false)
			}
			if texts := proof.Texts(p, keyOf("01")); len(texts) > 0 {
				t.Errorf("a proof with the end %d has the texts %x", end, texts)
			}
		}
	}
}

// The end 0 is right of one root alone, and has no steps, whatever root they lead to.
func TestP121CheckOfNothing(t *testing.T) {
	for _, root := range []api.Hash{{}, hash.Sum(nil), turned(rootOf(nil), 255), hash.Sum([]byte{0})} {
		wantCheck(t, proof.Proof{}, api.Hash{}, root, api.Hash{}, false, false)
	}
	p := proof.Proof{Steps: []proof.Step{stepAt("")}}
	for range 3 {
		for _, root := range []api.Hash{rootOf(nil), topOf(p, api.Hash{}), {}} {
			wantCheck(t, p, api.Hash{}, root, api.Hash{}, false, false)
		}
		p.Steps = append(p.Steps, stepAt(strings.Repeat("0", len(p.Steps))))
	}
}

// A length that no prefix has is refused, however far it is beyond, and has its text all the same.
func TestP121CheckOfWildProofs(t *testing.T) {
	lengths := []int{math.MinInt, math.MinInt32, -65536, -256, -1, 257, 511, 512, 65535, 65536, 65792, 1 << 32, math.MaxInt}
	for _, n := range lengths {
		for _, bits := range []api.Hash{{}, keyOf("01"), keyOf("1")} {
			wild := api.Prefix{Len: n, Bits: bits}
			steps := []proof.Step{stepAt(""), {Prefix: wild}}
			for _, p := range []proof.Proof{innerAt(wild), innerAt(wild, stepAt("")), leafAt("01", steps...), leafAt("01", steps[1:]...)} {
				texts := proof.Texts(p, keyOf("01"))
				if len(texts) != len(p.Steps)+1 {
					t.Fatalf("%v has %d texts", p, len(texts))
				}
				wantCheck(t, p, keyOf("01"), hash.Sum(texts[len(texts)-1]), api.Hash{}, false, false)
			}
		}
	}
}

// A long list of steps, the first of which may all be.
func TestP121CheckOfMoreStepsThanBits(t *testing.T) {
	d := strings.Repeat("01", 128)
	p := leafAt(d)
	for i := range 256 {
		p.Steps = append(p.Steps, stepAt(d[:i]))
	}
	wantCheck(t, p, keyOf(d), topOf(p, keyOf(d)), p.Value, true, true)
	wantTexts(t, p, keyOf(d))
	for range 3 {
		p.Steps = append(p.Steps, stepAt(d))
		wantCheck(t, p, keyOf(d), topOf(p, keyOf(d)), api.Hash{}, false, false)
		wantTexts(t, p, keyOf(d))
	}
	p.Steps = make([]proof.Step, 100000)
	wantCheck(t, p, keyOf(d), topOf(p, keyOf(d)), api.Hash{}, false, false)
}
