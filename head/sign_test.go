package head_test

import (
	"bytes"
	"fmt"
	"math"
	"math/rand"
	"slices"
	"testing"

	"rolodex/api"
	"rolodex/head"
	"rolodex/hss"
	"rolodex/wire"
)

// The signature is layer 6's, with the same number, of the head's bytes.
func TestP171Sign(t *testing.T) {
	for _, c := range [][3]int{{1, 1, 3}, {1, 2, 2}, {2, 1, 2}, {1, 1, 4}, {2, 2, 1}} {
		s, model := signer(t, c[0], c[1], c[2], api.Hash{5}), signer(t, c[0], c[1], c[2], api.Hash{5})
		for n := range s.Keys() {
			for _, h := range []head.Head{aHead(), {Epoch: 1, Tick: 1}, {Epoch: mostNumber, Tick: mostNumber, Log: countedHash(3)}} {
				want, _ := model.Sign(n, bytesOf(h))
				x, e := head.Sign(s, n, h)
				if e != api.OK || x.Head != h || !bytes.Equal(x.Sig, want) {
					t.Error("the signature", n, "by", c, "of", h, ":", e)
				}
				wantRight(t, "what is signed", x, s.Public(), true)
			}
		}
	}
}

// What is asked of the head stands ahead of what layer 6 asks.
func TestP171SignOfNoHead(t *testing.T) {
	s := signer(t, 1, 1, 2, api.Hash{5})
	for _, h := range noHeads() {
		for _, n := range []int{0, 3, -1, 4, math.MinInt, math.MaxInt} {
			wantNotSigned(t, "no head", s, n, h, api.ErrArg)
			wantNotSigned(t, "no head, no signer", nil, n, h, api.ErrArg)
			wantNotSigned(t, "no head, a zero signer", new(hss.Signer), n, h, api.ErrArg)
		}
	}
}

func TestP171SignBeyondTheKeys(t *testing.T) {
	for _, c := range [][3]int{{1, 1, 3}, {1, 2, 2}, {2, 1, 2}} {
		s := signer(t, c[0], c[1], c[2], api.Hash{5})
		k := s.Keys()
		for _, n := range []int{-1, -2, -k, k, k + 1, 2 * k, 256, 1 << 31, 1 << 32, 1<<32 + 1, -1 << 32, math.MinInt, math.MaxInt} {
			wantNotSigned(t, "no such signature", s, n, aHead(), api.ErrSpent)
		}
	}
}

func TestP171SignByNoSigner(t *testing.T) {
	for _, n := range []int{0, 1, -1, math.MinInt, math.MaxInt} {
		wantNotSigned(t, "no signer", nil, n, aHead(), api.ErrArg)
		_, want := new(hss.Signer).Sign(n, nil)
		if want == api.OK {
			t.Fatal("the test itself is wrong: a zero signer signs")
		}
		wantNotSigned(t, "a zero signer", new(hss.Signer), n, aHead(), want)
	}
}

// Each bit of the head counts, the tick's too.
func TestP171RightOfOtherHeads(t *testing.T) {
	s := signer(t, 1, 2, 2, api.Hash{6})
	for n, h := range []head.Head{aHead(), {Epoch: 1, Tick: 1}, {Epoch: 2, Tick: 1, Tree: countedHash(1)}, {Epoch: mostNumber, Tick: 1, Log: countedHash(1)}} {
		x := sign(t, s, n, h)
		wantRight(t, "its own head", x, s.Public(), true)
		for _, other := range others(h) {
			wantRight(t, "another head", head.Signed{Head: other, Sig: x.Sig}, s.Public(), false)
		}
		for _, no := range noHeads() {
			wantRight(t, "no head", head.Signed{Head: no, Sig: x.Sig}, s.Public(), false)
		}
	}
}

// What is no head isn't right, though the signature is, of the bytes that it would have.
func TestP171RightOfNoHead(t *testing.T) {
	s := signer(t, 2, 2, 1, api.Hash{7})
	for i, h := range noHeads() {
		sig, e := s.Sign(i%s.Keys(), bytesOf(h))
		if e != api.OK || !hss.Verify(s.Public(), bytesOf(h), sig) {
			t.Fatal("the test itself is wrong:", e)
		}
		wantRight(t, "no head", head.Signed{Head: h, Sig: sig}, s.Public(), false)
	}
	sig, _ := s.Sign(3, nil)
	wantRight(t, "a signature of no bytes, no head", head.Signed{Sig: sig}, s.Public(), false)
	wantRight(t, "a signature of no bytes, a head", head.Signed{Head: aHead(), Sig: sig}, s.Public(), false)
	for _, h := range []head.Head{{Epoch: 5, Tick: 6}, aHead()} {
		sig, _ := s.Sign(4, bytesOf(h))
		for _, by := range []int{1 << 32, -1 << 32, 1 << 40, math.MinInt} {
			x, y := h, h
			x.Epoch += by
			y.Tick += by
			wantRight(t, "an epoch far off", head.Signed{Head: x, Sig: sig}, s.Public(), false)
			wantRight(t, "a tick far off", head.Signed{Head: y, Sig: sig}, s.Public(), false)
		}
		wantRight(t, "not far off", head.Signed{Head: h, Sig: sig}, s.Public(), true)
	}
}

func TestP171RightByOtherKeys(t *testing.T) {
	s, other := signer(t, 1, 1, 3, api.Hash{8}), signer(t, 1, 1, 3, api.Hash{9})
	x := sign(t, s, 1, aHead())
	for _, public := range [][]byte{nil, {}, other.Public(), s.Public()[:59], append(s.Public(), 0), make([]byte, 60), s.Public()[4:]} {
		wantRight(t, "another key", x, public, false)
	}
	for i := range 8 * 60 {
		public := s.Public()
		public[i/8] ^= 1 << (i % 8)
		wantRight(t, fmt.Sprint("another bit of the key at ", i), x, public, false)
	}
	wantRight(t, "its own key", x, s.Public(), true)
}

func TestP171RightOfOtherSignatures(t *testing.T) {
	chance := rand.New(rand.NewSource(1712))
	s, other := signer(t, 1, 1, 2, api.Hash{10}), signer(t, 1, 1, 2, api.Hash{11})
	x := sign(t, s, 2, aHead())
	with := func(name string, sig []byte) {
		t.Helper()
		wantRight(t, name, head.Signed{Head: aHead(), Sig: sig}, s.Public(), false)
	}
	with("none", nil)
	with("no bytes", []byte{})
	with("noughts", make([]byte, len(x.Sig)))
	with("another signer's", sign(t, other, 2, aHead()).Sig)
	with("of a tick more", sign(t, s, 2, head.Head{Epoch: aHead().Epoch, Tick: aHead().Tick + 1, Tree: aHead().Tree, Log: aHead().Log}).Sig)
	with("a byte more", append(slices.Clone(x.Sig), 0))
	with("a byte more ahead", append([]byte{0}, x.Sig...))
	with("twice", append(slices.Clone(x.Sig), x.Sig...))
	for range 200 {
		with("cut short", x.Sig[:chance.Intn(len(x.Sig))])
		sig := slices.Clone(x.Sig)
		sig[chance.Intn(len(sig))] ^= 1 << chance.Intn(8)
		with("another bit", sig)
	}
	sig, _ := s.Sign(2, bytesOf(aHead())[1:])
	with("of fewer bytes", sig)
	sig, _ = s.Sign(2, append(bytesOf(aHead()), 0))
	with("of more bytes", sig)
	sig, _ = s.Sign(2, signedBytesOf(x))
	with("of the signed head's bytes", sig)
	wantRight(t, "its own", x, s.Public(), true)
}

// Any signature of a signer is right of the head, whatever its number.
func TestP171RightOfEachSignature(t *testing.T) {
	s := signer(t, 2, 1, 2, api.Hash{12})
	for n := range s.Keys() {
		sig, _ := s.Sign(n, bytesOf(aHead()))
		wantRight(t, fmt.Sprint("the signature ", n), head.Signed{Head: aHead(), Sig: sig}, s.Public(), true)
	}
}

// A signature may be longer than what can be put: those of the kinds 1 and 2 are.
func TestP171RightOfLongSignatures(t *testing.T) {
	for kind := 1; kind <= 4; kind++ {
		s := signer(t, 1, 1, kind, api.Hash{13})
		x := sign(t, s, 3, aHead())
		if (len(x.Sig) > api.MaxBytes) != (kind <= 2) {
			t.Fatal("the test itself is wrong:", kind, len(x.Sig))
		}
		wantRight(t, fmt.Sprint("a signature of the kind ", kind), x, s.Public(), true)
		var w wire.Writer
		head.Put(&w, x)
		if kind <= 2 {
			wantSpoilt(t, fmt.Sprint("a signature of the kind ", kind), &w)
		} else if b, e := w.Out(); e != api.OK || !bytes.Equal(b, signedBytesOf(x)) {
			t.Error("a signature of the kind", kind, "isn't put:", e)
		}
	}
}
