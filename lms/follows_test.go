package lms_test

import (
	"math/rand"
	"slices"
	"testing"

	"rolodex/api"
	"rolodex/lms"
)

func TestP52WhatIsSignedIsRight(t *testing.T) {
	chance := rand.New(rand.NewSource(61))
	for _, c := range shapes() {
		for _, g := range append(givens(), anyGiven(chance)) {
			x := tree(t, c[0], c[1], g)
			for q := range x.Keys() {
				wantRight(t, "what is signed", x.Public(), g.message, sign(t, x, q, g.message), true)
			}
		}
	}
}

// One key signs any message; nothing here counts how often.
func TestP52EachMessage(t *testing.T) {
	x := tree(t, 2, 2, givens()[2])
	for n := range 100 {
		wantRight(t, "a message", x.Public(), counted(n), sign(t, x, n%4, counted(n)), true)
	}
	wantRight(t, "a long message", x.Public(), counted(300000), sign(t, x, 0, counted(300000)), true)
}

// A signature is of its own message alone.
func TestP52OfAnotherMessage(t *testing.T) {
	chance := rand.New(rand.NewSource(62))
	for _, c := range shapes() {
		g := anyGiven(chance)
		g.message = append(g.message, 1)
		x := tree(t, c[0], c[1], g)
		s := sign(t, x, 1, g.message)
		changed := slices.Clone(g.message)
		changed[0] ^= 128
		for _, message := range [][]byte{nil, changed, g.message[1:], g.message[:len(g.message)-1], append(slices.Clone(g.message), 0)} {
			wantRight(t, "another message", x.Public(), message, s, false)
		}
	}
}

// A signature is of its own key alone: another key's number, or path, leads elsewhere.
func TestP52OfAnotherKey(t *testing.T) {
	for _, c := range shapes() {
		g := givens()[1]
		x := tree(t, c[0], c[1], g)
		at := len(sign(t, x, 0, g.message)) - 32*c[0]
		for q := range x.Keys() {
			s, other := sign(t, x, q, g.message), sign(t, x, q^1, g.message)
			wantRight(t, "another number", x.Public(), g.message, slices.Concat(other[:4], s[4:]), false)
			wantRight(t, "another path", x.Public(), g.message, slices.Concat(s[:at], other[at:]), false)
			wantRight(t, "another key", x.Public(), g.message, slices.Concat(s[:4], other[4:at], s[at:]), false)
		}
	}
}

// A tree's signatures are right by its own public key alone.
func TestP52OfAnotherTree(t *testing.T) {
	chance := rand.New(rand.NewSource(63))
	for _, c := range shapes() {
		g := anyGiven(chance)
		x := tree(t, c[0], c[1], g)
		s := sign(t, x, 1, g.message)
		id, seed := g, g
		id.id[15] ^= 1
		seed.seed[31] ^= 1
		for _, o := range []given{id, seed} {
			y := tree(t, c[0], c[1], o)
			wantRight(t, "another tree", y.Public(), g.message, s, false)
			wantRight(t, "another tree's node", slices.Concat(x.Public()[:24], y.Public()[24:]), g.message, s, false)
		}
	}
}

// Trees that only the height, or the kind, tells apart.
func TestP52OfAnotherShape(t *testing.T) {
	g := givens()[2]
	var trees []*lms.Tree
	for _, c := range shapes() {
		trees = append(trees, tree(t, c[0], c[1], g))
	}
	for i, x := range trees {
		s := sign(t, x, 1, g.message)
		for j, y := range trees {
			wantRight(t, "another shape", y.Public(), g.message, s, i == j)
		}
	}
}

// Whatever is other in what a tree is made of, its public key is another one.
func TestP52EachTreeIsItsOwn(t *testing.T) {
	chance := rand.New(rand.NewSource(64))
	found := map[api.Hash]int{}
	for _, c := range shapes() {
		g := anyGiven(chance)
		first, id, seed := g, g, g
		id.id[0] ^= 128
		seed.seed[0] ^= 128
		for _, o := range []given{first, id, seed} {
			x, _ := lms.New(c[0], c[1], o.id, o.seed)
			found[api.Hash(x.Public()[24:])]++
		}
	}
	if len(found) != 3*16 {
		t.Error("trees that aren't the same have one public key:", len(found))
	}
}
