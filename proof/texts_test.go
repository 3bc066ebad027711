package proof_test

import (
	"bytes"
	"math/rand"
	"reflect"
	"slices"
	"testing"

	"rolodex/api"
	"rolodex/hash"
	"rolodex/proof"
	"rolodex/trie"
)

func wantBytes(t *testing.T, texts [][]byte, want ...[]byte) {
	t.Helper()
	if !slices.EqualFunc(texts, want, bytes.Equal) {
		t.Errorf("the texts are %x, not %x", texts, want)
	}
}

func TestP121TextsOfNoSteps(t *testing.T) {
	chance := rand.New(rand.NewSource(1217))
	a, b := anyKey(chance), anyKey(chance)
	for _, key := range []api.Hash{{}, a, b} {
		wantBytes(t, proof.Texts(proof.Proof{}, key), []byte{101})
		wantBytes(t, proof.Texts(proof.Proof{End: 1, Key: a, Value: b}, key),
			slices.Concat([]byte{108, 0, 0, 0, 32}, a[:], []byte{0, 0, 0, 32}, b[:]))
		p := proof.Proof{End: 2, Prefix: api.Prefix{Len: 10, Bits: api.Hash{3, 64}}, Left: a, Right: b}
		wantBytes(t, proof.Texts(p, key), slices.Concat([]byte{110, 0, 0, 0, 2, 0, 10, 0, 0, 0, 32, 3, 64},
			make([]byte, 30), []byte{0, 0, 0, 32}, a[:], []byte{0, 0, 0, 32}, b[:]))
	}
	if proof.Texts(proof.Proof{}, a)[0][0] != 101 || hash.Sum(proof.Texts(proof.Proof{}, a)[0]) != trie.Empty() {
		t.Error("the end 0 hasn't the text of the tree without keys")
	}
}

// The sides hang on the key's bit behind each step's prefix, from the last step on.
func TestP121TextsOfSteps(t *testing.T) {
	p := leafAt("0110", stepAt("0"), stepAt("01"), stepAt("011"))
	p.Steps[0].Other, p.Steps[1].Other, p.Steps[2].Other = api.Hash{1}, api.Hash{2}, api.Hash{3}
	for _, c := range []struct {
		key   string
		right [3]bool // the sides on which the way goes on, from the uppermost node on
	}{
		{"0110", [3]bool{true, true, false}},
		{"0111", [3]bool{true, true, true}},
		{"0000", [3]bool{false, false, false}},
		{"1001", [3]bool{false, false, true}},
		{"1010", [3]bool{false, true, false}},
		{"1100", [3]bool{true, false, false}},
	} {
		want := [][]byte{leafText(keyOf("0110"), api.Hash{9})}
		for i := 2; i >= 0; i-- {
			below, s := hash.Sum(want[len(want)-1]), p.Steps[i]
			if c.right[i] {
				want = append(want, innerText(s.Prefix, s.Other, below))
			} else {
				want = append(want, innerText(s.Prefix, below, s.Other))
			}
		}
		wantBytes(t, proof.Texts(p, keyOf(c.key)), want...)
	}
}

// Whether a proof may be is not asked: the end 0 has a text for each step too, and so have
// prefixes that aren't formed, don't hold the key, or don't follow from one another.
func TestP121TextsOfWhatMayNotBe(t *testing.T) {
	chance := rand.New(rand.NewSource(1218))
	for range 2000 {
		key := anyKey(chance)
		p := proof.Proof{End: chance.Intn(3), Key: anyKey(chance), Value: anyKey(chance)}
		p.Prefix = api.Prefix{Len: chance.Intn(400), Bits: anyKey(chance)}
		p.Left, p.Right = anyKey(chance), anyKey(chance)
		for range chance.Intn(6) {
			s := proof.Step{Prefix: api.Prefix{Len: chance.Intn(300), Bits: anyKey(chance)}, Other: anyKey(chance)}
			p.Steps = append(p.Steps, s)
		}
		wantTexts(t, p, key)
	}
	p := proof.Proof{Steps: []proof.Step{stepAt(""), stepAt("1"), stepAt("")}}
	if texts := proof.Texts(p, api.Hash{}); len(texts) != 4 || !bytes.Equal(texts[0], []byte{101}) {
		t.Errorf("nothing below three steps has the texts %x", texts)
	}
	wantTexts(t, p, api.Hash{})
	for _, n := range []int{255, 256, 257, 300, 65535} { // no bit of the key is behind 255
		p := leafAt("1", proof.Step{Prefix: api.Prefix{Len: n}, Other: api.Hash{1}})
		wantTexts(t, p, keyOf("1"))
		wantTexts(t, p, turned(api.Hash{}, 255))
	}
}

func TestP121TextsAreNewMemory(t *testing.T) {
	f, x := someTree(t)
	for _, key := range []api.Hash{{0x25}, {0x26}, {0xc0}} {
		p := mustShow(t, f, x, key)
		texts, want := proof.Texts(p, key), textsOf(p, key)
		for i := range texts {
			grown := append(texts[i], 1, 2, 3)
			for j := range grown {
				grown[j] = 255
			}
			for j := range texts[i] {
				texts[i][j] = 255
			}
			wantBytes(t, texts[i+1:], want[i+1:]...)
		}
		wantBytes(t, proof.Texts(p, key), want...)
	}
	proof.Texts(proof.Proof{}, api.Hash{})[0][0] = 7
	wantBytes(t, proof.Texts(proof.Proof{}, api.Hash{}), []byte{101})
}

// What is handed in is left as it is, its spare room too.
func TestP121NothingHandedInIsChanged(t *testing.T) {
	f, x := someTree(t)
	for b := range 256 {
		key := api.Hash{byte(b)}
		p := mustShow(t, f, x, key)
		room := append(slices.Clone(p.Steps), stepAt("111"), stepAt("01"))
		p.Steps = room[:len(p.Steps):len(room)]
		before, kept := clone(p), slices.Clone(room)
		proof.Check(p, key, hashOf(someRoot))
		proof.Texts(p, key)
		if !reflect.DeepEqual(clone(p), before) || !slices.Equal(room, kept) {
			t.Fatalf("a proof of %x was changed: %v", key, room)
		}
	}
}
