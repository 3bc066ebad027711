package hss_test

import (
	"math"
	"math/rand"
	"slices"
	"testing"

	"rolodex/api"
	"rolodex/hss"
	"rolodex/lms"
)

// anyTree answers a tree that no signer has.
func anyTree(chance *rand.Rand, height, kind int) *lms.Tree {
	var id api.ID
	var seed api.Hash
	chance.Read(id[:])
	chance.Read(seed[:])
	x, _ := lms.New(height, kind, id, seed)
	return x
}

func publicOf(x *lms.Tree) []byte {
	return slices.Concat([]byte{0, 0, 0, 2}, x.Public())
}

// lower has shapes of bottom trees; with them any top tree goes.
func lower() [][2]int {
	return [][2]int{{1, 1}, {2, 3}, {1, 4}, {4, 2}, {3, 3}}
}

// Whoever made the trees: the bottom one's height and kind are its own public key's.
func TestP61VerifyOfAnyTrees(t *testing.T) {
	chance := rand.New(rand.NewSource(62))
	message := []byte("a message")
	for _, low := range lower() {
		for _, high := range lower() {
			top, tree := anyTree(chance, high[0], high[1]), anyTree(chance, low[0], low[1])
			i, q := chance.Intn(top.Keys()), chance.Intn(tree.Keys())
			s := twoStoreys(top, i, tree, q, message)
			wantRight(t, "any trees", publicOf(top), message, s, true)
			wantRight(t, "the bottom tree's public key", publicOf(tree), message, s, false)
			wantRight(t, "another message", publicOf(top), message[1:], s, false)
			other := anyTree(chance, high[0], high[1])
			wantRight(t, "another tree's public key", publicOf(other), message, s, false)
			wantRight(t, "another tree's signature", publicOf(top), message, twoStoreys(other, i, tree, q, message), false)
		}
	}
}

// The numbers ahead, each of which is no part of what is hashed.
func TestP61VerifyOfOtherNumbersAhead(t *testing.T) {
	g := givens()[1]
	s := signer(t, shape{1, 2, 3}, g)
	b, a := s.Public(), sign(t, s, 5, g.message)
	for at := range 4 {
		for x := range 256 {
			public, signature := slices.Clone(b), slices.Clone(a)
			public[at], signature[at] = byte(x), byte(x)
			wantRight(t, "another number ahead of the public key", public, g.message, a, public[at] == b[at])
			wantRight(t, "another number ahead of the signature", b, g.message, signature, signature[at] == a[at])
		}
	}
}

func near(n, edge int) bool { return n >= edge-70 && n <= edge+70 }

// Bytes of other numbers than the right one.
func TestP61VerifyOfOtherSizes(t *testing.T) {
	for _, c := range []shape{{1, 2, 4}, {2, 1, 3}} {
		g := givens()[1]
		s := signer(t, c, g)
		b, a := s.Public(), sign(t, s, 1, g.message)
		long := append(slices.Clone(a), a[4:]...)
		high, low := len(a)-lms.Size(c.bottom, c.kind)-56, len(a)-lms.Size(c.bottom, c.kind)
		for n := range long {
			if n%7 == 0 || n < 10 || near(n, high) || near(n, low) || near(n, len(a)) {
				wantRight(t, "so many bytes", b, g.message, long[:n], n == len(a))
			}
		}
		keys := append(slices.Clone(b), b...)
		for n := range keys {
			wantRight(t, "so many bytes of the public key", keys[:n], g.message, a, n == 60)
		}
	}
	wantRight(t, "nothing", nil, nil, nil, false)
	wantRight(t, "noughts", make([]byte, 60), nil, make([]byte, 64), false)
	wantRight(t, "only what is ahead", []byte{0, 0, 0, 2}, nil, []byte{0, 0, 0, 1}, false)
	wantRight(t, "all but what is ahead", publicOf(nil), nil, []byte{0, 0, 0, 1}, false)
}

// Each byte of a signature, and each bit of a public key, counts. Where there are many bytes, or
// where each takes long, some are left out.
func TestP61VerifyOfAnotherByte(t *testing.T) {
	if testing.Short() {
		t.Skip("some seconds")
	}
	chance := rand.New(rand.NewSource(63))
	for _, c := range []struct {
		shape
		step int
	}{{shape{1, 2, 3}, 3}, {shape{2, 2, 2}, 5}, {shape{1, 1, 4}, 13}, {shape{3, 1, 1}, 29}} {
		g := anyGiven(chance)
		s := signer(t, c.shape, g)
		b, a := s.Public(), sign(t, s, 3, g.message)
		wantRight(t, "what is signed", b, g.message, a, true)
		for at := 0; at < len(a); at += c.step {
			other := slices.Clone(a)
			other[at] ^= 1 << chance.Intn(8)
			wantRight(t, "another byte", b, g.message, other, false)
		}
		for i := range 8 * len(b) {
			other := slices.Clone(b)
			other[i/8] ^= 1 << (i % 8)
			wantRight(t, "another bit of the public key", other, g.message, a, false)
		}
	}
}

// A public key of a tree that may not be has no signature, and none of its size either.
func TestP61VerifyOfNoTree(t *testing.T) {
	g := givens()[1]
	s := signer(t, shape{2, 2, 3}, g)
	b, a := s.Public(), sign(t, s, 9, g.message)
	low := len(a) - lms.Size(2, 3) - 56
	for _, x := range []uint32{0, 5, 6, 255, 256, 258, 65539, 1 << 24, 1 << 31, 1<<31 + 2, math.MaxUint32 - 1, math.MaxUint32} {
		for _, at := range []int{4, 8} {
			public := slices.Clone(b)
			copy(public[at:], bytesOf(x))
			for _, cut := range []int{0, 4, 8, 44, 56, low - 4, low} {
				wantRight(t, "no tree", public, g.message, slices.Concat(a[:4], a[4+min(cut, low-4):]), false)
			}
		}
	}
}

// The 56 bytes are signed by the top tree, but aren't a tree's public key, or another's.
func TestP61VerifyOfNoBottomTree(t *testing.T) {
	chance := rand.New(rand.NewSource(64))
	top, tree := anyTree(chance, 2, 2), anyTree(chance, 3, 3)
	message := []byte("a message")
	low, _ := tree.Sign(6, message)
	for _, c := range []struct {
		at int
		x  uint32
	}{{0, 0}, {0, 2}, {0, 4}, {0, 5}, {0, 1 << 31}, {4, 0}, {4, 1}, {4, 2}, {4, 4}, {4, 5}, {8, 7}, {52, 7}} {
		public := tree.Public()
		copy(public[c.at:], bytesOf(c.x))
		high, _ := top.Sign(1, public)
		wantRight(t, "no bottom tree", publicOf(top), message, slices.Concat([]byte{0, 0, 0, 1}, high, public, low), false)
	}
	high, _ := top.Sign(1, tree.Public())
	wantRight(t, "the bottom tree", publicOf(top), message, slices.Concat([]byte{0, 0, 0, 1}, high, tree.Public(), low), true)
	wantRight(t, "no low part", publicOf(top), message, slices.Concat([]byte{0, 0, 0, 1}, high, tree.Public()), false)
	high, _ = top.Sign(1, nil)
	wantRight(t, "no bottom tree at all", publicOf(top), nil, slices.Concat([]byte{0, 0, 0, 1}, high), false)
	high, _ = top.Sign(1, message)
	wantRight(t, "one storey", publicOf(top), message, slices.Concat([]byte{0, 0, 0, 0}, high), false)
	wantRight(t, "one storey", publicOf(top), message, slices.Concat([]byte{0, 0, 0, 1}, high), false)
	wantRight(t, "one storey's public key", slices.Concat([]byte{0, 0, 0, 1}, top.Public()), message, slices.Concat([]byte{0, 0, 0, 0}, high), false)
}

// Parts of signatures that are right, which don't go together.
func TestP61VerifyOfOtherParts(t *testing.T) {
	c, g := shape{2, 1, 3}, givens()[2]
	s := signer(t, c, g)
	size := lms.Size(1, 3)
	for n := range s.Keys() {
		for m := range s.Keys() {
			x, y := sign(t, s, n, g.message), sign(t, s, m, g.message)
			low := len(x) - size
			wantRight(t, "another low part", s.Public(), g.message, slices.Concat(x[:low], y[low:]), n/2 == m/2)
			wantRight(t, "another bottom tree", s.Public(), g.message, slices.Concat(x[:low-56], y[low-56:]), n/2 == m/2)
			wantRight(t, "another public key between", s.Public(), g.message, slices.Concat(x[:low-56], y[low-56:low], x[low:]), n/2 == m/2)
		}
	}
}

// What one signs with two storeys isn't what another one signs with them, or with three.
func TestP61VerifyOfThreeStoreys(t *testing.T) {
	chance := rand.New(rand.NewSource(65))
	message := []byte("a message")
	top, middle, tree := anyTree(chance, 1, 3), anyTree(chance, 1, 3), anyTree(chance, 1, 3)
	high, _ := top.Sign(0, middle.Public())
	rest := twoStoreys(middle, 1, tree, 1, message)[4:]
	for _, n := range []byte{1, 2} {
		signature := slices.Concat([]byte{0, 0, 0, n}, high, middle.Public(), rest)
		wantRight(t, "three storeys", publicOf(top), message, signature, false)
		public := publicOf(top)
		public[3] = 3
		wantRight(t, "three storeys by three", public, message, signature, false)
	}
	if !hss.Verify(publicOf(middle), message, slices.Concat([]byte{0, 0, 0, 1}, rest)) {
		t.Error("the two lower storeys aren't right")
	}
}
