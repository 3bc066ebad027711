package lms_test

import (
	"math"
	"math/rand"
	"slices"
	"testing"

	"rolodex/api"
	"rolodex/lmots"
	"rolodex/lms"
)

func wantRight(t *testing.T, what string, public, message, signature []byte, want bool) {
	t.Helper()
	if got := lms.Verify(public, message, signature); got != want {
		t.Errorf("%s: right is %t, of %d bytes by %d bytes, %x", what, got, len(signature), len(public), public[:min(8, len(public))])
	}
}

// A forged is what nobody's seed made: a public key with the node 1 to which the signature's
// parts lead, whatever they are.
type forged struct {
	height, kind uint32
	id           api.ID
	message      []byte
	q            uint32
	once         []byte
	signed       uint32
	path         []api.Hash
}

// forge answers one that is right, though its layer 4's part, and its path, are by chance.
func forge(chance *rand.Rand, height, kind int) forged {
	f := forged{height: uint32(height), kind: uint32(kind), message: make([]byte, chance.Intn(100)), signed: uint32(height)}
	chance.Read(f.id[:])
	chance.Read(f.message)
	f.q = uint32(chance.Intn(1 << height))
	f.once = once(chance, kind, lmots.Size(kind))
	f.path = path(chance, height)
	return f
}

// once answers size bytes by chance, that begin with the kind.
func once(chance *rand.Rand, kind, size int) []byte {
	b := make([]byte, size)
	chance.Read(b)
	copy(b, bytesOf(uint32(kind)))
	return b
}

func path(chance *rand.Rand, n int) []api.Hash {
	l := make([]api.Hash, n)
	for i := range l {
		chance.Read(l[i][:])
	}
	return l
}

// top answers where the whole path leads from layer 4's part: from a zero hash, if that isn't
// one.
func (f forged) top() api.Hash {
	key, _ := lmots.Recover(f.id, f.q, f.message, f.once)
	r := uint32(1)<<f.height + f.q
	h := leaf(f.id, r, key)
	for _, other := range f.path {
		if r%2 == 1 {
			h = branch(f.id, r/2, other, h)
		} else {
			h = branch(f.id, r/2, h, other)
		}
		r /= 2
	}
	return h
}

func (f forged) public() []byte {
	top := f.top()
	return slices.Concat(bytesOf(f.height), bytesOf(f.kind), f.id[:], top[:])
}

func (f forged) signature() []byte {
	s := slices.Concat(bytesOf(f.q), f.once, bytesOf(f.signed))
	for _, h := range f.path {
		s = append(s, h[:]...)
	}
	return s
}

func (f forged) wantRight(t *testing.T, what string, want bool) {
	t.Helper()
	wantRight(t, what, f.public(), f.message, f.signature(), want)
}

// Whoever made the bytes: they lead to the public key's node.
func TestP51VerifyOfWhatLeadsThere(t *testing.T) {
	chance := rand.New(rand.NewSource(52))
	for _, c := range shapes() {
		for q := range 1 << c[0] {
			f := forge(chance, c[0], c[1])
			f.q = uint32(q)
			f.wantRight(t, "what leads there", true)
		}
	}
	f := forged{height: 1, kind: 1, signed: 1, once: make([]byte, lmots.Size(1)), path: make([]api.Hash, 1)}
	f.once[3] = 1
	f.wantRight(t, "noughts", true)
}

// All leads to the node 1, but the height is none, with paths that belong to it, and others.
func TestP51VerifyOfNoHeight(t *testing.T) {
	chance := rand.New(rand.NewSource(53))
	for kind := 1; kind <= 4; kind++ {
		for _, height := range []uint32{0, 5, 6, 10, 16, 31, 32, 33, 34, 256, 257, 1 << 16, 1 << 24, 1 << 31, 1<<31 + 1, math.MaxUint32 - 1, math.MaxUint32} {
			for n := range 12 {
				f := forge(chance, 1, kind)
				f.height, f.signed, f.path = height, height, path(chance, n)
				f.wantRight(t, "no height", false)
				f.q = 0
				f.wantRight(t, "no height, first key", false)
			}
		}
	}
}

// A kind that is none has no signature: nor has one that would be of its size, if there were
// one.
func TestP51VerifyOfNoKind(t *testing.T) {
	chance := rand.New(rand.NewSource(54))
	for _, kind := range []uint32{0, 5, 6, 7, 8, 255, 256, 258, 1 << 16, 1 << 24, 1<<24 + 1, 1 << 31, math.MaxUint32} {
		for _, size := range []int{0, 4, 36, 68, 36 + 32*18, 36 + 32*265, lmots.Size(1), lmots.Size(2), lmots.Size(3), lmots.Size(4)} {
			f := forge(chance, 2, 4)
			f.kind, f.once = kind, once(chance, int(kind), size)
			f.wantRight(t, "no kind", false)
			for other := 1; other <= 4; other++ {
				f.once = once(chance, other, size)
				f.wantRight(t, "no kind, another one signed", false)
			}
		}
	}
}

// Layer 4's part is another kind's, or none: with its own size, or that which the public key's
// kind has.
func TestP51VerifyOfAnotherKind(t *testing.T) {
	chance := rand.New(rand.NewSource(55))
	for _, c := range shapes() {
		for other := range 6 {
			for _, size := range []int{lmots.Size(c[1]), lmots.Size(other)} {
				f := forge(chance, c[0], c[1])
				f.once = once(chance, other, size)
				f.wantRight(t, "another kind", other == c[1])
			}
		}
	}
}

// The height that stands in a signature is no part of what is hashed.
func TestP51VerifyOfAnotherHeight(t *testing.T) {
	chance := rand.New(rand.NewSource(56))
	for _, c := range shapes() {
		f := forge(chance, c[0], c[1])
		for _, signed := range []uint32{0, 1, 2, 3, 4, 5, uint32(c[0]) << 8, 1<<8 + uint32(c[0]), 1<<16 + uint32(c[0]), 1<<24 + uint32(c[0]), math.MaxUint32} {
			f.signed = signed
			f.wantRight(t, "a signature's height", signed == uint32(c[0]))
		}
		f.signed = f.height
		for _, height := range []int{1, 2, 3, 4} {
			f.height = uint32(height)
			f.wantRight(t, "a public key's height", height == c[0])
		}
	}
}

// There is no q-th key: neither the node where so many steps end, nor the node 1 that a longer
// path ends at, nor what is there when the number of the node is cut short, is the tree's.
func TestP51VerifyBeyondTheKeys(t *testing.T) {
	chance := rand.New(rand.NewSource(57))
	for _, c := range shapes() {
		n := uint32(1) << c[0]
		for _, q := range []uint32{n, n + 1, 2*n - 1, 2 * n, 3 * n, 8 * n, 1 << 8, 1 << 16, 1 << 24, 1 << 31, 1<<31 + 1, -n, 1 - n, math.MaxUint32 - 1, math.MaxUint32} {
			f := forge(chance, c[0], c[1])
			f.q = q
			f.wantRight(t, "no q-th key", false)
			for longer := range 6 {
				f.path = path(chance, longer)
				f.wantRight(t, "no q-th key, another path", false)
			}
		}
		f := forge(chance, c[0], c[1])
		f.q = n - 1
		f.wantRight(t, "the last key", true)
		f.q = 0
		f.wantRight(t, "the first key", true)
	}
}

// A path with some nodes more, or fewer: its end is no tree's node 1.
func TestP51VerifyOfAnotherPath(t *testing.T) {
	chance := rand.New(rand.NewSource(58))
	for _, c := range shapes() {
		for n := range 9 {
			f := forge(chance, c[0], c[1])
			f.path = path(chance, n)
			f.wantRight(t, "another path", n == c[0])
		}
	}
}

// Bytes of every number but the right one.
func TestP51VerifyOfOtherSizes(t *testing.T) {
	for _, c := range [][2]int{{1, 4}, {2, 4}, {3, 3}, {4, 4}} {
		g := givens()[1]
		x := tree(t, c[0], c[1], g)
		b, s := x.Public(), sign(t, x, 1, g.message)
		long := append(slices.Clone(s), s...)
		for n := range long {
			wantRight(t, "so many bytes", b, g.message, long[:n], n == len(s))
		}
		keys := append(slices.Clone(b), b...)
		for n := range keys {
			wantRight(t, "so many bytes of the public key", keys[:n], g.message, s, n == 56)
		}
	}
	wantRight(t, "nothing", nil, nil, nil, false)
	wantRight(t, "noughts", make([]byte, 56), nil, make([]byte, 8), false)
}

// Each byte of a signature, and each bit of a public key, counts. Where there are many bytes, or
// where each takes long, some are left out.
func TestP51VerifyOfAnotherByte(t *testing.T) {
	chance := rand.New(rand.NewSource(59))
	for _, c := range []struct{ height, kind, step int }{{1, 3, 5}, {2, 2, 1}, {3, 4, 9}, {4, 1, 11}} {
		f := forge(chance, c.height, c.kind)
		b, s := f.public(), f.signature()
		wantRight(t, "what leads there", b, f.message, s, true)
		for at := 0; at < len(s); at += c.step {
			other := slices.Clone(s)
			other[at] ^= 1 << chance.Intn(8)
			wantRight(t, "another byte", b, f.message, other, false)
		}
		for i := range 8 * len(b) {
			other := slices.Clone(b)
			other[i/8] ^= 1 << (i % 8)
			wantRight(t, "another bit of the public key", other, f.message, s, false)
		}
	}
}

// The four bytes of the number and of the height: all that each may be.
func TestP51VerifyOfAnotherNumber(t *testing.T) {
	chance := rand.New(rand.NewSource(60))
	f := forge(chance, 3, 2)
	b, s := f.public(), f.signature()
	height := 4 + lmots.Size(2)
	for _, at := range []int{0, 1, 2, 3, 4, 5, 6, 7, height, height + 1, height + 2, height + 3} {
		for x := range 256 {
			other := slices.Clone(s)
			other[at] = byte(x)
			wantRight(t, "another number", b, f.message, other, other[at] == s[at])
		}
	}
}
