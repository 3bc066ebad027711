package head_test

import (
	"bytes"
	"math/rand"
	"testing"

	"rolodex/api"
	"rolodex/head"
	"rolodex/hss"
	"rolodex/wire"
)

// What is signed is right by the signer's public key, and by no other one; and no other head is
// right with its signature.
func TestP172WhatIsSignedIsRight(t *testing.T) {
	chance := rand.New(rand.NewSource(1721))
	var signers []*hss.Signer
	for _, c := range [][3]int{{1, 1, 1}, {1, 1, 2}, {1, 2, 3}, {2, 1, 2}, {2, 3, 1}, {3, 1, 3}, {1, 1, 4}} {
		var seed api.Hash
		chance.Read(seed[:])
		signers = append(signers, signer(t, c[0], c[1], c[2], seed))
	}
	for i, s := range signers {
		for range 6 {
			h := anyHead(chance)
			x := sign(t, s, chance.Intn(s.Keys()), h)
			for j, other := range signers {
				wantRight(t, "what is signed", x, other.Public(), i == j)
			}
			y := x
			y.Head = anyHead(chance)
			wantRight(t, "another head", y, s.Public(), false)
			all := others(h)
			y.Head = all[chance.Intn(len(all))]
			wantRight(t, "another head", y, s.Public(), false)
		}
	}
}

// What is put is taken, any number of them; what is taken, put again, is that.
func TestP172WhatIsPutIsTaken(t *testing.T) {
	chance := rand.New(rand.NewSource(1722))
	for n := range 12 {
		for range 8 {
			var l []head.Signed
			for range n {
				l = append(l, anySigned(chance, []int{0, 1, 254 + chance.Intn(4), chance.Intn(8193), 8192}[chance.Intn(5)]))
			}
			b := put(t, l...)
			r := wire.New(b)
			var again []head.Signed
			for i, want := range l {
				x := head.Take(r)
				if !same(x, want) {
					t.Error("the one at", i, "of", n, ":", x.Head, len(x.Sig))
				}
				again = append(again, x)
			}
			if !r.Done() {
				t.Error("of", n, "left:", r.Left(), r.Fails())
			}
			if !bytes.Equal(put(t, again...), b) {
				t.Error("other bytes, of", n)
			}
			if s := head.Take(r); !isZero(s) || !r.Fails() {
				t.Error("one more is taken, of", n)
			}
		}
	}
}

// Signed, put, taken: it is right still.
func TestP172WhatIsTakenIsRight(t *testing.T) {
	chance := rand.New(rand.NewSource(1723))
	s, other := signer(t, 1, 2, 3, api.Hash{14}), signer(t, 1, 2, 3, api.Hash{15})
	for n := range s.Keys() {
		x := sign(t, s, n, anyHead(chance))
		b := put(t, x)
		if len(b) != headSize+2+hss.Size(1, 2, 3) {
			t.Error("bytes:", len(b))
		}
		y := head.Take(wire.New(b))
		wantRight(t, "what is taken", y, s.Public(), true)
		wantRight(t, "what is taken, another key", y, other.Public(), false)
		for at := range headSize {
			c := bytes.Clone(b)
			c[at] ^= 1 << chance.Intn(8)
			wantRight(t, "another bit", head.Take(wire.New(c)), s.Public(), false)
		}
	}
}

// What is encoded is decoded; two heads have the same bytes just if they are the same.
func TestP172WhatIsEncodedIsDecoded(t *testing.T) {
	chance := rand.New(rand.NewSource(1724))
	found := map[string]head.Head{}
	for range 100 {
		h := anyHead(chance)
		for _, x := range append(others(h), h, h) {
			b, e := head.Encode(x)
			if e != api.OK {
				t.Fatal(x, e)
			}
			if y, e := head.Decode(b); e != api.OK || y != x {
				t.Error(x, ":", y, e)
			}
			if y, ok := found[string(b)]; ok && y != x {
				t.Error("two heads with the same bytes:", x, y)
			}
			found[string(b)] = x
		}
	}
}

// What is decoded, encoded again, is that.
func TestP172WhatIsDecodedIsEncoded(t *testing.T) {
	chance := rand.New(rand.NewSource(1725))
	heads := 0
	for range 20000 {
		b := make([]byte, headSize)
		chance.Read(b)
		h, e := head.Decode(b)
		if e != api.OK {
			continue
		}
		heads++
		if c, e := head.Encode(h); e != api.OK || !bytes.Equal(b, c) {
			t.Error(b, ":", c, e)
		}
	}
	if heads < 3000 {
		t.Error("the test itself is wrong: heads:", heads)
	}
}
