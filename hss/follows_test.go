package hss_test

import (
	"bytes"
	"math/rand"
	"slices"
	"testing"

	"rolodex/api"
	"rolodex/hss"
)

func TestP62WhatIsSignedIsRight(t *testing.T) {
	chance := rand.New(rand.NewSource(66))
	list := quickShapes()
	if !testing.Short() {
		list = append(list, shape{4, 4, 4})
	}
	for _, c := range list {
		g := anyGiven(chance)
		s := signer(t, c, g)
		public := s.Public()
		for _, n := range some(c) {
			wantRight(t, "what is signed", public, g.message, sign(t, s, n, g.message), true)
		}
	}
}

func TestP62EachSignature(t *testing.T) {
	chance := rand.New(rand.NewSource(67))
	for _, c := range []shape{{4, 4, 2}, {1, 4, 3}, {4, 1, 1}, {2, 2, 4}} {
		g := anyGiven(chance)
		s := signer(t, c, g)
		found := map[string]int{}
		for n := range s.Keys() {
			a := sign(t, s, n, g.message)
			wantRight(t, "what is signed", s.Public(), g.message, a, true)
			found[string(a)]++
		}
		if len(found) != c.keys() {
			t.Error("signatures of", c, ":", len(found))
		}
	}
}

func TestP62EachMessage(t *testing.T) {
	s := signer(t, shape{1, 2, 2}, givens()[2])
	for n := range 100 {
		a := sign(t, s, n%8, counted(n))
		wantRight(t, "a message", s.Public(), counted(n), a, true)
		wantRight(t, "a longer message", s.Public(), counted(n+1), a, false)
	}
	wantRight(t, "a long message", s.Public(), counted(300000), sign(t, s, 0, counted(300000)), true)
}

// A signer counts nothing: what was signed ahead, in whatever order, and what was refused,
// changes no answer.
func TestP62InAnyOrder(t *testing.T) {
	chance := rand.New(rand.NewSource(68))
	for _, c := range []shape{{2, 2, 2}, {1, 3, 3}, {3, 1, 1}, {4, 2, 2}} {
		g := anyGiven(chance)
		s, m := signer(t, c, g), newModel(c, g)
		k := c.keys()
		numbers := []int{0, 0, k - 1, 0, -1, 0, k, k - 1, k / 2, k/2 - 1, k / 2, 1, 2, 1}
		for range 60 {
			numbers = append(numbers, chance.Intn(k+4)-2)
		}
		for _, n := range numbers {
			if n < 0 || n >= k {
				wantNotSigned(t, s, n, api.ErrSpent)
			} else if !bytes.Equal(sign(t, s, n, g.message), m.sign(n)) {
				t.Error("another signature of", c, "the number", n)
			}
			if s.Keys() != k || !bytes.Equal(s.Public(), m.public()) {
				t.Error("another signer behind the number", n)
			}
		}
	}
}

// Each signature is that of a signer that never signed ahead.
func TestP62BehindAnyOther(t *testing.T) {
	c, g := shape{2, 1, 3}, givens()[1]
	var first [][]byte
	for n := range c.keys() {
		first = append(first, sign(t, signer(t, c, g), n, g.message))
	}
	for n := range c.keys() {
		for ahead := range c.keys() {
			s := signer(t, c, g)
			sign(t, s, ahead, []byte("another message"))
			if !bytes.Equal(sign(t, s, n, g.message), first[n]) {
				t.Error("another signature, of the number", n, "behind", ahead)
			}
		}
	}
}

func TestP62SignersAreApart(t *testing.T) {
	c, d := shape{2, 1, 2}, shape{1, 2, 3}
	g, h := givens()[1], givens()[2]
	x, y, m, o := signer(t, c, g), signer(t, d, h), newModel(c, g), newModel(d, h)
	for _, n := range []int{0, 7, 1, 6, 5, 2, 3, 4} {
		if !bytes.Equal(sign(t, x, n, g.message), m.sign(n)) || !bytes.Equal(sign(t, y, 7-n, h.message), o.sign(7-n)) {
			t.Error("a signer hangs on another one, at the number", n)
		}
	}
	if !bytes.Equal(x.Public(), m.public()) || !bytes.Equal(y.Public(), o.public()) {
		t.Error("a public key hangs on another signer")
	}
}

// A signer's copy goes its own way.
func TestP62CopiesAreApart(t *testing.T) {
	c, g := shape{2, 1, 2}, givens()[1]
	s, m := signer(t, c, g), newModel(c, g)
	sign(t, s, 3, g.message)
	other := *s
	for _, n := range []int{3, 0, 7, 2, 2, 5} {
		if !bytes.Equal(sign(t, s, n, g.message), m.sign(n)) || !bytes.Equal(sign(t, &other, 7-n, g.message), m.sign(7-n)) {
			t.Error("a signer hangs on its copy, at the number", n)
		}
	}
}

// Whatever is other in what a signer is made of, its public key and its signatures are others.
func TestP62EachSignerIsItsOwn(t *testing.T) {
	chance := rand.New(rand.NewSource(69))
	for _, c := range []shape{{1, 1, 1}, {2, 1, 2}, {1, 2, 3}, {2, 2, 4}} {
		g := anyGiven(chance)
		s := signer(t, c, g)
		a := sign(t, s, 1, g.message)
		for _, at := range []int{0, 8, 15, 16, 31} {
			h := g
			h.seed[at] ^= 1
			other := signer(t, c, h)
			if bytes.Equal(s.Public()[12:], other.Public()[12:]) {
				t.Error("one public key of two seeds")
			}
			wantRight(t, "another seed", other.Public(), g.message, a, false)
			wantRight(t, "another seed's", s.Public(), g.message, sign(t, other, 1, g.message), false)
		}
	}
}

// Signers that only a height, or the kind, tells apart. The bottom trees' height is nowhere in
// the public key: there one signature more goes.
func TestP62OfAnotherShape(t *testing.T) {
	g := givens()[1]
	list := slices.DeleteFunc(quickShapes(), func(c shape) bool { return c.top+c.bottom > 4 })
	var signers []*hss.Signer
	for _, c := range list {
		signers = append(signers, signer(t, c, g))
	}
	for i, s := range signers {
		a := sign(t, s, 1, g.message)
		for j, other := range signers {
			same := list[i].top == list[j].top && list[i].kind == list[j].kind
			wantRight(t, "another shape", other.Public(), g.message, a, same)
		}
	}
}

// Keeping the bottom tree that was used last changes no answer, but spares making it anew: signing
// on with it takes far less than going to and fro between two.
func TestP62TheBottomTreeIsKept(t *testing.T) {
	s := signer(t, shape{1, 4, 1}, givens()[1])
	going := func(a, b int) float64 {
		return testing.AllocsPerRun(2, func() {
			sign(t, s, a, nil)
			sign(t, s, b, nil)
		})
	}
	if on, apart := going(16, 31), going(15, 16); apart < 4*on {
		t.Error("allocations of signing on:", on, "and to and fro:", apart)
	}
}
