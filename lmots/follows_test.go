package lmots_test

import (
	"math/rand"
	"slices"
	"testing"

	"rolodex/api"
	"rolodex/lmots"
)

func TestP42ASignatureLeadsToThePublicKey(t *testing.T) {
	chance := rand.New(rand.NewSource(46))
	for kind := range kinds {
		l := givens()
		for range 20 {
			l = append(l, anyGiven(chance))
		}
		for _, g := range l {
			wantLed(t, g, sign(t, kind, g), public(t, kind, g))
		}
	}
}

// The public key is no other one for another message; each message leads to it by a signature
// of its own.
func TestP42EachMessage(t *testing.T) {
	g := givens()[1]
	for kind := range kinds {
		h := public(t, kind, g)
		for n := range 30 {
			g.message = counted(n)
			wantLed(t, g, sign(t, kind, g), h)
		}
	}
}

func wantElsewhere(t *testing.T, what string, g given, signature []byte, h api.Hash) {
	t.Helper()
	if other, ok := lmots.Recover(g.id, g.q, g.message, signature); !ok || other == h {
		t.Errorf("of another %s: led to %x, %t", what, other, ok)
	}
}

// What belongs to something else has the form, and leads elsewhere.
func TestP42LeadsElsewhere(t *testing.T) {
	chance := rand.New(rand.NewSource(47))
	for kind := range kinds {
		g := anyGiven(chance)
		h, s := public(t, kind, g), sign(t, kind, g)
		id, q, message := g, g, g
		id.id[15] ^= 1
		q.q ^= 1 << 31
		message.message = append(slices.Clone(g.message), 0)
		wantElsewhere(t, "id", id, s, h)
		wantElsewhere(t, "q", q, s, h)
		wantElsewhere(t, "message", message, s, h)
		for _, at := range []int{4, 35, 36, 67, 68, len(s) - 33, len(s) - 32, len(s) - 1} {
			other := slices.Clone(s)
			other[at] ^= 1
			wantElsewhere(t, "signature", g, other, h)
		}
	}
}

// Whatever is other in what a key is made of, the public key is another one.
func TestP42EachKeyIsItsOwn(t *testing.T) {
	chance := rand.New(rand.NewSource(48))
	found := map[api.Hash]int{}
	for kind := range kinds {
		g := anyGiven(chance)
		first, id, q, seed := g, g, g, g
		id.id[0] ^= 128
		q.q++
		seed.seed[31] ^= 1
		for _, o := range []given{first, id, q, seed} {
			found[public(t, kind, o)]++
		}
	}
	if len(found) != 16 {
		t.Error("keys that aren't the same have one public key:", len(found))
	}
}

// someLess tells whether some digit of a is less than b's.
func someLess(a, b []int) bool {
	for i := range a {
		if a[i] < b[i] {
			return true
		}
	}
	return false
}

func wantBothLess(t *testing.T, kind int, a, b api.Hash) {
	t.Helper()
	l, m := lmots.Digits(kind, a), lmots.Digits(kind, b)
	if len(l) != len(m) || !someLess(l, m) || !someLess(m, l) {
		t.Fatalf("of the kind %d, of %x and %x: no digit is less", kind, a, b)
	}
}

func TestP42OfTwoHashes(t *testing.T) {
	l := someHashes()
	for kind := range kinds {
		for i, a := range l {
			for _, b := range l[:min(i, 100)] {
				wantBothLess(t, kind, a, b)
			}
		}
	}
}

// Those that are hardest to tell apart: all bits of the one are the other's, and one more.
func TestP42OfHashesWithOneBitMore(t *testing.T) {
	for kind := range kinds {
		for _, a := range someHashes() {
			for i := range 256 {
				b := a
				b[i/8] |= 128 >> (i % 8)
				if a != b {
					wantBothLess(t, kind, a, b)
				}
			}
		}
	}
}

// All that one byte may be, at both ends and between.
func TestP42OfHashesWithAnotherByte(t *testing.T) {
	for kind := range kinds {
		for _, at := range []int{0, 15, 31} {
			for x := range 256 {
				for y := range x {
					var a, b api.Hash
					a[at], b[at] = byte(x), byte(y)
					wantBothLess(t, kind, a, b)
				}
			}
		}
	}
}
