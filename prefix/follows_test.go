package prefix_test

import (
	"math/rand"
	"testing"

	"rolodex/api"
	"rolodex/prefix"
)

// Of each length the own prefix holds the key, and is formed, and each is held by those that
// are shorter.
func TestP32OwnPrefixesHoldTheKey(t *testing.T) {
	for _, k := range keys() {
		for n := range 257 {
			p := prefix.Cut(k, n)
			if p.Len != n || !prefix.Formed(p) || !prefix.Holds(p, k) {
				t.Errorf("%x doesn't hold %x", p, k)
			}
			if n > 0 && (!prefix.Within(prefix.Cut(k, n-1), p) || prefix.Within(p, prefix.Cut(k, n-1))) {
				t.Errorf("%x isn't held by the one ahead alone", p)
			}
		}
	}
}

// No other one does: a bit more or less anywhere, ahead of the length or behind it, or another
// length with the same bits, and it isn't held any more, or is the key's own of that length.
func TestP32NoOtherPrefixHoldsTheKey(t *testing.T) {
	for _, k := range keys()[:12] {
		for n := range 257 {
			p := prefix.Cut(k, n)
			for i := range 256 {
				other := api.Prefix{Len: n, Bits: turned(p.Bits, i)}
				if prefix.Holds(other, k) {
					t.Fatalf("%x holds %x", other, k)
				}
			}
			for m := -1; m <= 257; m++ {
				other := api.Prefix{Len: m, Bits: p.Bits}
				if prefix.Holds(other, k) && other != prefix.Cut(k, m) {
					t.Fatalf("%x holds %x", other, k)
				}
			}
		}
	}
}

func TestP32OfAnyPrefix(t *testing.T) {
	chance := rand.New(rand.NewSource(34))
	for range 20000 {
		k := anyKey(chance)
		p := prefix.Cut(turned(k, chance.Intn(256)), chance.Intn(257))
		if chance.Intn(4) == 0 {
			p.Len = chance.Intn(280) - 12
		}
		own := p.Len >= 0 && p.Len <= 256 && p == prefix.Cut(k, p.Len)
		if prefix.Holds(p, k) != own {
			t.Fatalf("whether %x holds %x", p, k)
		}
	}
}

// From the empty one down, just one child goes on holding the key: the one by the key's bit.
func TestP32TheWayDown(t *testing.T) {
	for _, k := range keys() {
		p := prefix.Cut(k, 0)
		for n := range 256 {
			next, ok := prefix.Child(p, prefix.Bit(k, n))
			other, also := prefix.Child(p, 1-prefix.Bit(k, n))
			if !ok || !also || next != prefix.Cut(k, n+1) || !prefix.Holds(next, k) || prefix.Holds(other, k) {
				t.Fatalf("below %x, to %x: %x and %x", p, k, next, other)
			}
			p = next
		}
		if p.Bits != k {
			t.Errorf("the way to %x ends at %x", k, p)
		}
	}
}

// What holds two keys are just the prefixes of what they share.
func TestP32WhatHoldsTwoKeys(t *testing.T) {
	for _, a := range keys() {
		for _, b := range keys() {
			for _, n := range lengths() {
				if prefix.Holds(prefix.Cut(a, n), b) != (n <= prefix.Shared(a, b)) {
					t.Fatalf("%x and %x, at %d", a, b, n)
				}
			}
			if m := prefix.Meet(prefix.Cut(a, 256), prefix.Cut(b, 256)); m != prefix.Cut(a, prefix.Shared(a, b)) {
				t.Fatalf("Meet of %x and %x: %x", a, b, m)
			}
		}
	}
}
