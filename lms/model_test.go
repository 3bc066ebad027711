package lms_test

import (
	"encoding/hex"
	"math"
	"math/rand"
	"slices"
	"testing"

	"rolodex/api"
	"rolodex/hash"
	"rolodex/lmots"
	"rolodex/lms"
)

// A given has what a tree of any height and kind is made of, and a message.
type given struct {
	id      api.ID
	seed    api.Hash
	message []byte
}

func counted(n int) []byte {
	b := make([]byte, n)
	for i := range b {
		b[i] = byte(i % 251)
	}
	return b
}

// givens are those that the literal answers belong to.
func givens() []given {
	last := api.ID{}
	for i := range last {
		last[i] = byte(240 + i)
	}
	return []given{
		{api.ID{}, api.Hash{}, nil},
		{api.ID{1, 2}, api.Hash{3}, []byte("hi")},
		{last, api.Hash(counted(32)), counted(1000)},
	}
}

func anyGiven(chance *rand.Rand) given {
	g := given{message: make([]byte, chance.Intn(200))}
	chance.Read(g.id[:])
	chance.Read(g.seed[:])
	chance.Read(g.message)
	return g
}

// shapes has each height with each kind.
func shapes() [][2]int {
	var l [][2]int
	for height := 1; height <= 4; height++ {
		for kind := 1; kind <= 4; kind++ {
			l = append(l, [2]int{height, kind})
		}
	}
	return l
}

// noShapes has heights and kinds of which one at least may not be: some would be, if they were
// cut short.
func noShapes() [][2]int {
	wrong := []int{0, -1, -2, -4, 5, 6, 8, 16, 31, 32, 33, 63, 64, 65, 255, 256, 258, 65539, 1<<32 + 2, -1<<32 + 3, math.MinInt, math.MinInt + 1, math.MaxInt}
	var l [][2]int
	for _, x := range wrong {
		for right := 1; right <= 4; right++ {
			l = append(l, [2]int{x, right}, [2]int{right, x})
		}
		for _, y := range wrong {
			l = append(l, [2]int{x, y})
		}
	}
	return l
}

func bytesOf(x uint32) []byte {
	return []byte{byte(x >> 24), byte(x >> 16), byte(x >> 8), byte(x)}
}

// leaf and branch answer a node, as the chapter has it.
func leaf(id api.ID, r uint32, public api.Hash) api.Hash {
	return hash.Sum(slices.Concat(id[:], bytesOf(r), []byte{33410 / 256, 33410 % 256}, public[:]))
}

func branch(id api.ID, r uint32, left, right api.Hash) api.Hash {
	return hash.Sum(slices.Concat(id[:], bytesOf(r), []byte{33667 / 256, 33667 % 256}, left[:], right[:]))
}

// A model is a tree as the chapter has it, of any height.
type model struct {
	height, kind int
	given
	nodes map[int]api.Hash
}

func newModel(height, kind int, g given) model {
	return model{height, kind, g, map[int]api.Hash{}}
}

func (m model) node(r int) api.Hash {
	if h, ok := m.nodes[r]; ok {
		return h
	}
	h := m.reckoned(r)
	m.nodes[r] = h
	return h
}

func (m model) reckoned(r int) api.Hash {
	if q := r - 1<<m.height; q >= 0 {
		public, _ := lmots.Public(m.kind, m.id, uint32(q), m.seed)
		return leaf(m.id, uint32(r), public)
	}
	return branch(m.id, uint32(r), m.node(2*r), m.node(2*r+1))
}

func (m model) public() []byte {
	top := m.node(1)
	return slices.Concat(bytesOf(uint32(m.height)), bytesOf(uint32(m.kind)), m.id[:], top[:])
}

func (m model) sign(q int) []byte {
	once, _ := lmots.Sign(m.kind, m.id, uint32(q), m.seed, m.message)
	s := slices.Concat(bytesOf(uint32(q)), once, bytesOf(uint32(m.height)))
	for r := 1<<m.height + q; r > 1; r /= 2 {
		h := m.node(r - 1)
		if r%2 == 0 {
			h = m.node(r + 1)
		}
		s = append(s, h[:]...)
	}
	return s
}

func tree(t *testing.T, height, kind int, g given) *lms.Tree {
	t.Helper()
	x, e := lms.New(height, kind, g.id, g.seed)
	if e != api.OK || x == nil {
		t.Fatal("New of the height", height, "and the kind", kind, ":", x, e)
	}
	return x
}

func sign(t *testing.T, x *lms.Tree, q int, message []byte) []byte {
	t.Helper()
	s, e := x.Sign(q, message)
	if e != api.OK {
		t.Fatal("Sign by the key", q, ":", e)
	}
	return s
}

// The model against the published roots of other programs' trees: RFC 8554, appendix F, test
// case 2. They are higher than any of New's, but made by the same rules.
func TestP51TheModelIsAsPublished(t *testing.T) {
	for _, c := range []struct {
		height, kind  int
		id, seed, top string
	}{
		{5, 4, "215f83b7ccb9acbcd08db97b0d04dc2b", "a1c4696e2608035a886100d05cd99945eb3370731884a8235e2fb3d4d71f2547", "a1cd035833e0e90059603f26e07ad2aad152338e7a5e5984bcd5f7bb4eba40b7"},
		{10, 3, "d08fabd4a2091ff0a8cb4ed834e74534", "558b8966c48ae9cb898b423c83443aae014a72f1b1ab5cc85cf1d892903b5439", "32a58885cd9ba0431235466bff9651c6c92124404d45fa53cf161c28f1ad5a8e"},
	} {
		if testing.Short() && c.height > 5 {
			continue
		}
		id, _ := hex.DecodeString(c.id)
		seed, _ := hex.DecodeString(c.seed)
		m := newModel(c.height, c.kind, given{id: api.ID(id), seed: api.Hash(seed)})
		if h := m.node(1); hex.EncodeToString(h[:]) != c.top {
			t.Errorf("of the height %d: %x", c.height, h)
		}
	}
}
