package hss_test

import (
	"math"
	"math/rand"
	"slices"
	"testing"

	"rolodex/api"
	"rolodex/hash"
	"rolodex/hss"
	"rolodex/lms"
)

// A shape is what a signer is made of, beside the seed.
type shape struct{ top, bottom, kind int }

func (c shape) keys() int { return 1 << (c.top + c.bottom) }

// A given has a seed, and a message.
type given struct {
	seed    api.Hash
	message []byte
}

func counted(n int) []byte {
	b := make([]byte, n)
	for i := range b {
		b[i] = byte(i % 251)
	}
	return b
}

// givens are those that the literal answers belong to.
func givens() []given {
	return []given{
		{api.Hash{}, nil},
		{api.Hash{9}, []byte("hello")},
		{api.Hash(counted(32)), counted(1000)},
	}
}

func anyGiven(chance *rand.Rand) given {
	g := given{message: make([]byte, 1+chance.Intn(200))}
	chance.Read(g.seed[:])
	chance.Read(g.message)
	return g
}

// shapes has each height over each height, with each kind.
func shapes() []shape {
	var l []shape
	for kind := 1; kind <= 4; kind++ {
		for i := range 16 {
			l = append(l, shape{1 + i/4, 1 + i%4, kind})
		}
	}
	return l
}

// quickShapes leaves out those that take longest: a tree's keys are reckoned one by one.
func quickShapes() []shape {
	return slices.DeleteFunc(shapes(), func(c shape) bool { return c.kind == 4 && c.top+c.bottom > 3 })
}

// some answers numbers of signatures: the first ones and the last ones, the edges of bottom
// trees, and some between.
func some(c shape) []int {
	each := 1 << c.bottom
	l := []int{0, 1, each - 1, each, each + 1, c.keys() / 2, c.keys() - each - 1, c.keys() - each, c.keys() - 2, c.keys() - 1}
	slices.Sort(l)
	return slices.Compact(l)
}

// noShapes has heights and kinds of which one at least may not be: some would be, if they were
// cut short.
func noShapes() []shape {
	wrong := []int{0, -1, -2, -4, 5, 6, 8, 16, 32, 63, 64, 65, 255, 256, 258, 65539, 1<<32 + 2, -1<<32 + 3, math.MinInt, math.MinInt + 1, math.MaxInt}
	var l []shape
	for _, x := range wrong {
		for i := range 16 {
			a, b := 1+i/4, 1+i%4
			l = append(l, shape{x, a, b}, shape{a, x, b}, shape{a, b, x})
		}
		for _, y := range wrong {
			l = append(l, shape{x, y, 1}, shape{x, 2, y}, shape{3, x, y}, shape{x, x, y})
		}
	}
	return l
}

func bytesOf(x uint32) []byte {
	return []byte{byte(x >> 24), byte(x >> 16), byte(x >> 8), byte(x)}
}

// A model is a signer as the chapter has it.
type model struct {
	shape
	given
	upper *lms.Tree
	below map[int]*lms.Tree
}

func newModel(c shape, g given) model {
	id := hash.Tagged(105, g.seed[:])
	x, _ := lms.New(c.top, c.kind, api.ID(id[:16]), hash.Tagged(115, g.seed[:]))
	return model{c, g, x, map[int]*lms.Tree{}}
}

func (m model) bottomTree(i int) *lms.Tree {
	if m.below[i] == nil {
		id := hash.Tagged(105, m.seed[:], bytesOf(uint32(i)))
		m.below[i], _ = lms.New(m.bottom, m.kind, api.ID(id[:16]), hash.Tagged(115, m.seed[:], bytesOf(uint32(i))))
	}
	return m.below[i]
}

func (m model) public() []byte {
	return slices.Concat([]byte{0, 0, 0, 2}, m.upper.Public())
}

func (m model) sign(n int) []byte {
	each := 1 << m.bottom
	return twoStoreys(m.upper, n/each, m.bottomTree(n/each), n%each, m.message)
}

// twoStoreys answers a signature by any two trees, whatever they are made of.
func twoStoreys(top *lms.Tree, i int, tree *lms.Tree, q int, message []byte) []byte {
	high, _ := top.Sign(i, tree.Public())
	low, _ := tree.Sign(q, message)
	return slices.Concat([]byte{0, 0, 0, 1}, high, tree.Public(), low)
}

func signer(t *testing.T, c shape, g given) *hss.Signer {
	t.Helper()
	s, e := hss.New(c.top, c.bottom, c.kind, g.seed)
	if e != api.OK || s == nil {
		t.Fatal("New of", c, ":", s, e)
	}
	return s
}

func sign(t *testing.T, s *hss.Signer, n int, message []byte) []byte {
	t.Helper()
	b, e := s.Sign(n, message)
	if e != api.OK {
		t.Fatal("the signature", n, ":", e)
	}
	return b
}

func wantNotSigned(t *testing.T, s *hss.Signer, n int, want api.Errno) {
	t.Helper()
	if b, e := s.Sign(n, []byte("hi")); len(b) != 0 || e != want {
		t.Error("the signature", n, ":", len(b), "bytes,", e)
	}
}

func wantRight(t *testing.T, what string, public, message, signature []byte, want bool) {
	t.Helper()
	if got := hss.Verify(public, message, signature); got != want {
		t.Errorf("%s: right is %t, of %d bytes by %d bytes, %x", what, got, len(signature), len(public), public[:min(12, len(public))])
	}
}
