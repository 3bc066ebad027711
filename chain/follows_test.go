package chain_test

import (
	"bytes"
	"fmt"
	"math/rand"
	"slices"
	"testing"

	"rolodex/api"
	"rolodex/chain"
	"rolodex/hash"
)

func anyHash(chance *rand.Rand) api.Hash {
	var h api.Hash
	chance.Read(h[:])
	return h
}

func anyBytes(chance *rand.Rand, least, most int) []byte {
	b := make([]byte, least+chance.Intn(most-least+1))
	chance.Read(b)
	return b
}

// grown answers a chain of n versions, each of them by Grow, by seeds of their own.
func grown(t *testing.T, chance *rand.Rand, label []byte, n int) []chain.Version {
	t.Helper()
	var l []chain.Version
	epoch := 0
	for range n {
		epoch += 1 + chance.Intn(1<<chance.Intn(20))
		seed, value := anyHash(chance), anyBytes(chance, 0, mostValue)
		x, e := chain.Grow(seed, label, l, epoch, value)
		if want, wantE := grownOf(seed, label, l, epoch, value); e != wantE || !same(x, want) {
			t.Fatalf("Grow of %v by %d and %x: %v, %v", l, epoch, value, x, e)
		}
		l = x
	}
	return l
}

// All that grows is formed, has the commitment of its last version, and so has each beginning.
func TestP142WhatGrowsIsFormed(t *testing.T) {
	chance := rand.New(rand.NewSource(142))
	for range 300 {
		label := anyBytes(chance, 1, mostLabel)
		l := grown(t, chance, label, chance.Intn(12))
		for n := range l {
			beginning := l[:n+1]
			wantFormed(t, "what was grown", label, beginning, true)
			if !chain.Check(label, beginning, chain.Commit(label, l[n])) {
				t.Fatal("Check of what was grown")
			}
			if x := chain.Upto(l, l[n].Epoch); !same(x, beginning) {
				t.Fatal("up to an epoch of what was grown:", x)
			}
			if x := chain.Upto(l, l[n].Epoch-1); !same(x, l[:n]) {
				t.Fatal("up to ahead of an epoch of what was grown:", x)
			}
		}
	}
	wantFormed(t, "300 versions", []byte("bob"), grown(t, chance, []byte("bob"), 300), true)
}

// smallChains answers all chains of the label of up to three versions with the epochs 1 to 4, two
// values, and two salts.
func smallChains(label []byte) [][]chain.Version {
	var all [][]chain.Version
	ahead := [][]chain.Version{nil}
	for range 3 {
		var longer [][]chain.Version
		for _, l := range ahead {
			for epoch := 1; epoch <= 4; epoch++ {
				if len(l) > 0 && epoch <= lastOf(l).Epoch {
					continue
				}
				for i := range 4 {
					v := chain.Version{Number: len(l) + 1, Epoch: epoch, Salt: api.Hash{31: byte(i & 1)}, Value: make([]byte, i>>1)}
					longer = append(longer, linked(label, append(cloned(l), v)))
				}
			}
		}
		all = append(all, longer...)
		ahead = longer
	}
	return all
}

// Of all chains that differ in whatever, but by ever so little, no two have one commitment.
func TestP142ChainsWithOneCommitmentAreTheSame(t *testing.T) {
	found := map[api.Hash]string{}
	count := 0
	for _, label := range []string{"a", "b", "aa"} {
		for _, l := range smallChains([]byte(label)) {
			if !chain.Formed([]byte(label), l) {
				t.Fatal("a small chain isn't one:", label, l)
			}
			c := chain.Commit([]byte(label), lastOf(l))
			if other, is := found[c]; is {
				t.Fatal("one commitment of", label, l, "and", other)
			}
			found[c] = fmt.Sprint(label, l)
			count++
		}
	}
	if count != 3*(16+96+256) {
		t.Error("the test itself is wrong:", count)
	}
}

// Each small chain is right by its own commitment, and by no other one's.
func TestP142OneChainOfACommitment(t *testing.T) {
	label := []byte("a")
	all := smallChains(label)
	for i, l := range all {
		c := commitmentOf(label, lastOf(l))
		for j, m := range all {
			if chain.Check(label, m, c) != (i == j) {
				t.Fatal("by the commitment of", l, ":", m)
			}
		}
	}
}

// change answers l with one thing in it that is another one, but for links, which are left as they
// were.
func change(chance *rand.Rand, l []chain.Version) []chain.Version {
	own := cloned(l)
	i := chance.Intn(len(own))
	v := &own[i]
	switch chance.Intn(9) {
	case 0:
		v.Number += 1 << chance.Intn(40)
	case 1:
		v.Epoch += 1 - 2*chance.Intn(2)
	case 2:
		v.Epoch ^= 1 << chance.Intn(40)
	case 3:
		v.Salt[chance.Intn(32)] ^= 1 << chance.Intn(8)
	case 4:
		v.Before[chance.Intn(32)] ^= 1 << chance.Intn(8)
	case 5:
		v.Value = append(v.Value, byte(chance.Intn(256)))
	case 6:
		v.Value = append([]byte{0}, v.Value...)
	case 7:
		own = slices.Delete(own, i, i+1)
	case 8:
		own = slices.Insert(own, i, own[chance.Intn(len(own))])
	}
	return own
}

// Whatever is changed in a chain, it isn't one, or hasn't the commitment. Where the links are made
// anew it may be a chain, but never of that commitment.
func TestP142ChangedChains(t *testing.T) {
	chance := rand.New(rand.NewSource(143))
	chains := 0
	for range 400 {
		label := anyBytes(chance, 1, mostLabel)
		l := grown(t, chance, label, 1+chance.Intn(6))
		c := chain.Commit(label, lastOf(l))
		for range 30 {
			m := change(chance, l)
			again := linked(label, m)
			if chain.Check(label, m, c) || chain.Check(label, again, c) && !same(again, l) {
				t.Fatalf("Check of %v, that was %v", m, l)
			}
			if chain.Formed(label, m) != isChain(label, m) || chain.Formed(label, again) != isChain(label, again) {
				t.Fatalf("Formed of %v, or linked anew", m)
			}
			if isChain(label, again) {
				chains++
			}
		}
		other := append(bytes.Clone(label), 1)[chance.Intn(2):]
		if chain.Check(other, l, c) || len(l) > 1 && chain.Formed(other, l) {
			t.Fatalf("%v is also a chain of %q", l, other)
		}
	}
	if chains < 1000 {
		t.Error("the test itself is wrong: chains among what was changed:", chains)
	}
}

// Two versions that differ have two texts, but where a number differs by 2^32: and of such two at
// most one is of a chain.
func TestP142TextsTellVersionsApart(t *testing.T) {
	chance := rand.New(rand.NewSource(144))
	label := []byte("alice")
	for range 20000 {
		v := chain.Version{Number: chance.Intn(3), Epoch: chance.Intn(3), Salt: api.Hash{31: byte(chance.Intn(2))}, Value: make([]byte, chance.Intn(3))}
		w := v
		switch chance.Intn(5) {
		case 0:
			w.Number = chance.Intn(3)
		case 1:
			w.Epoch = chance.Intn(3)
		case 2:
			w.Salt[0] = byte(chance.Intn(2))
		case 3:
			w.Before[31] = byte(chance.Intn(2))
		case 4:
			w.Value = make([]byte, chance.Intn(3))
		}
		one, two := chain.Text(label, v), chain.Text(label, w)
		if bytes.Equal(one, two) != sameVersion(v, w) || hash.Clash(one, two) {
			t.Fatal("the texts of", v, "and", w)
		}
		if (chain.Commit(label, v) == chain.Commit(label, w)) != sameVersion(v, w) {
			t.Fatal("the commitments of", v, "and", w)
		}
	}
	v := chain.Version{Number: 1, Epoch: 1}
	for _, w := range []chain.Version{{Number: 1 + 1<<32, Epoch: 1}, {Number: 1, Epoch: 1 + 1<<32}, {Number: 1 - 1<<32, Epoch: 1}} {
		if !bytes.Equal(chain.Text(label, v), chain.Text(label, w)) || chain.Check(label, []chain.Version{w}, chain.Commit(label, v)) {
			t.Error("a number that differs by 2^32:", w)
		}
	}
}

// The last bytes of a part aren't the first ones of the part behind it.
func TestP142PartsThatMeet(t *testing.T) {
	a := chain.Text([]byte("ab"), chain.Version{Number: 1, Epoch: 1})
	b := chain.Text([]byte("a"), chain.Version{Number: 'b'<<24 | 1, Epoch: 1})
	c := chain.Text([]byte("a"), chain.Version{Number: 1, Epoch: 1, Value: []byte("b")})
	if bytes.Equal(a, b) || bytes.Equal(a, c) || bytes.Equal(b, c) {
		t.Error("one text of two lists of parts")
	}
	if chain.Key([]byte("ab")) == chain.Key([]byte("a")) || chain.Key(nil) == chain.Key([]byte{0}) {
		t.Error("one key of two labels")
	}
	if chain.Salt(api.Hash{}, []byte("ab"), 1) == chain.Salt(api.Hash{}, []byte("a"), 'b'<<24|1) {
		t.Error("one salt of two labels")
	}
}
