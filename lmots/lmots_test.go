package lmots_test

import (
	"bytes"
	"fmt"
	"math"
	"math/rand"
	"slices"
	"strconv"
	"strings"
	"testing"

	"rolodex/api"
	"rolodex/hash"
	"rolodex/lmots"
)

// kinds has each kind's bits of a digit, chains and shift.
var kinds = map[int][3]int{1: {1, 265, 7}, 2: {2, 133, 6}, 3: {4, 67, 4}, 4: {8, 34, 0}}

// noKinds has numbers that are none, and some that would be one if they were cut short.
func noKinds() []int {
	return []int{0, -1, -2, -3, -4, 5, 6, 7, 8, 16, 255, 256, 257, 260, 65539, 1<<32 + 3, -1<<32 + 3, math.MinInt, math.MinInt + 1, math.MaxInt}
}

// A given has what a key is made of, and a message.
type given struct {
	id      api.ID
	q       uint32
	seed    api.Hash
	message []byte
}

func counted(n int) []byte {
	b := make([]byte, n)
	for i := range b {
		b[i] = byte(i % 251)
	}
	return b
}

// givens are those that the literal answers below belong to.
func givens() []given {
	last := api.ID{}
	for i := range last {
		last[i] = byte(240 + i)
	}
	return []given{
		{api.ID{}, 0, api.Hash{}, nil},
		{api.ID{1, 2}, 5, api.Hash{3}, []byte("hi")},
		{last, math.MaxUint32, api.Hash(counted(32)), counted(1000)},
		{api.ID{}, 0x01020304, api.Hash{}, nil},
	}
}

func anyGiven(chance *rand.Rand) given {
	g := given{q: chance.Uint32(), message: make([]byte, chance.Intn(200))}
	chance.Read(g.id[:])
	chance.Read(g.seed[:])
	chance.Read(g.message)
	return g
}

// under is the hash of the bytes under (id, q, i), as the chapter has it.
func under(g given, i int, b ...byte) api.Hash {
	text := slices.Clone(g.id[:])
	text = append(text, byte(g.q>>24), byte(g.q>>16), byte(g.q>>8), byte(g.q), byte(i>>8), byte(i))
	return hash.Sum(append(text, b...))
}

// cut reads a text of 0s and 1s, so many bits a digit.
func cut(text string, bits int) []int {
	var l []int
	for ; len(text) >= bits; text = text[bits:] {
		n, _ := strconv.ParseInt(text[:bits], 2, 64)
		l = append(l, int(n))
	}
	return l
}

// digits reads the digits off a plain text of 0s and 1s.
func digits(kind int, h api.Hash) []int {
	bits, chains, shift := kinds[kind][0], kinds[kind][1], kinds[kind][2]
	var text strings.Builder
	for _, b := range h {
		fmt.Fprintf(&text, "%08b", b)
	}
	check := 0
	for _, digit := range cut(text.String(), bits) {
		check += 1<<bits - 1 - digit
	}
	return append(cut(text.String(), bits), cut(fmt.Sprintf("%016b", check<<shift), bits)...)[:chains]
}

// chain answers all that a chain is, from its begin to its end.
func chain(kind int, g given, i int) []api.Hash {
	l := []api.Hash{under(g, i, append([]byte{255}, g.seed[:]...)...)}
	for j := range 1<<kinds[kind][0] - 1 {
		l = append(l, under(g, i, append([]byte{byte(j)}, l[j][:]...)...))
	}
	return l
}

// model answers the public key and the signature, as the chapter has them.
func model(kind int, g given) (api.Hash, []byte) {
	salt := under(g, 65533, append([]byte{255}, g.seed[:]...)...)
	signature := append([]byte{0, 0, 0, byte(kind)}, salt[:]...)
	var ends []byte
	for i, digit := range digits(kind, under(g, 33153, append(salt[:], g.message...)...)) {
		l := chain(kind, g, i)
		signature = append(signature, l[digit][:]...)
		ends = append(ends, l[len(l)-1][:]...)
	}
	return under(g, 32896, ends...), signature
}

// led answers to which public key a signature leads that has its kind's size.
func led(kind int, g given, signature []byte) api.Hash {
	salt, rest := signature[4:36], signature[36:]
	var ends []byte
	for i, digit := range digits(kind, under(g, 33153, append(slices.Clone(salt), g.message...)...)) {
		h := api.Hash(rest[32*i : 32*i+32])
		for j := digit; j < 1<<kinds[kind][0]-1; j++ {
			h = under(g, i, append([]byte{byte(j)}, h[:]...)...)
		}
		ends = append(ends, h[:]...)
	}
	return under(g, 32896, ends...)
}

func public(t *testing.T, kind int, g given) api.Hash {
	t.Helper()
	h, e := lmots.Public(kind, g.id, g.q, g.seed)
	if e != api.OK {
		t.Fatal("Public of the kind", kind, ":", e)
	}
	return h
}

func sign(t *testing.T, kind int, g given) []byte {
	t.Helper()
	s, e := lmots.Sign(kind, g.id, g.q, g.seed, g.message)
	if e != api.OK {
		t.Fatal("Sign of the kind", kind, ":", e)
	}
	return s
}

func TestP41Examples(t *testing.T) {
	if n := lmots.Chains(3); n != 67 {
		t.Error("Chains:", n)
	}
	if n := lmots.Size(3); n != 2180 {
		t.Error("Size:", n)
	}
}

func TestP41ChainsAndSize(t *testing.T) {
	for kind, size := range map[int]int{1: 8516, 2: 4292, 3: 2180, 4: 1124} {
		if n := lmots.Chains(kind); n != kinds[kind][1] {
			t.Error("Chains of", kind, ":", n)
		}
		if n := lmots.Size(kind); n != size {
			t.Error("Size of", kind, ":", n)
		}
	}
}

func TestP41OfNoKind(t *testing.T) {
	g := givens()[1]
	for _, kind := range noKinds() {
		if n, m := lmots.Chains(kind), lmots.Size(kind); n != 0 || m != 0 {
			t.Error(kind, "has chains or a size:", n, m)
		}
		if l := lmots.Digits(kind, g.seed); len(l) != 0 {
			t.Error(kind, "has digits:", l)
		}
		if h, e := lmots.Public(kind, g.id, g.q, g.seed); h != (api.Hash{}) || e != api.ErrArg {
			t.Error("Public of", kind, ":", h, e)
		}
		if s, e := lmots.Sign(kind, g.id, g.q, g.seed, g.message); len(s) != 0 || e != api.ErrArg {
			t.Error("Sign of", kind, ":", s, e)
		}
	}
}

// someHashes has those with the least and the greatest check sum, those that have 1s at one end
// of each digit, those with one bit alone, and some by chance.
func someHashes() []api.Hash {
	chance := rand.New(rand.NewSource(41))
	var l []api.Hash
	for _, b := range []byte{0, 255, 1, 128, 0x0f, 0xf0, 0x55, 0xaa, 0x1b, 0xe4, 0x12} {
		l = append(l, api.Hash(bytes.Repeat([]byte{b}, 32)))
	}
	for i := range 256 {
		var h api.Hash
		h[i/8] = 128 >> (i % 8)
		l = append(l, h)
	}
	for range 300 {
		var h api.Hash
		chance.Read(h[:])
		l = append(l, h)
	}
	return l
}

func TestP41Digits(t *testing.T) {
	for kind := range kinds {
		for _, h := range someHashes() {
			if l := lmots.Digits(kind, h); !slices.Equal(l, digits(kind, h)) {
				t.Errorf("Digits of the kind %d of %x: %v", kind, h, l)
			}
		}
	}
}

// The digits of the check sum, worked out by hand.
func TestP41DigitsOfTheCheckSum(t *testing.T) {
	ones := api.Hash(bytes.Repeat([]byte{255}, 32))
	for _, c := range []struct {
		kind int
		h    api.Hash
		want []int
	}{
		{1, api.Hash{}, []int{1, 0, 0, 0, 0, 0, 0, 0, 0}},
		{2, api.Hash{}, []int{1, 2, 0, 0, 0}},
		{3, api.Hash{}, []int{3, 12, 0}},
		{4, api.Hash{}, []int{31, 224}},
		{1, ones, make([]int, 9)},
		{2, ones, make([]int, 5)},
		{3, ones, make([]int, 3)},
		{4, ones, make([]int, 2)},
		{1, api.Hash{0x12, 0xff}, []int{0, 1, 1, 1, 1, 0, 1, 1, 0}},
		{2, api.Hash{0x12, 0xff}, []int{1, 1, 3, 0, 1}},
		{3, api.Hash{0x12, 0xff}, []int{3, 9, 15}},
		{4, api.Hash{0x12, 0xff}, []int{30, 207}},
	} {
		l := lmots.Digits(c.kind, c.h)
		if len(l) != lmots.Chains(c.kind) || !slices.Equal(l[len(l)-len(c.want):], c.want) {
			t.Errorf("of the kind %d and %x: %v", c.kind, c.h, l)
		}
	}
}

func TestP41DigitsOfTheHash(t *testing.T) {
	h := api.Hash{0x12, 0xff}
	for kind, want := range map[int][]int{
		1: {0, 0, 0, 1, 0, 0, 1, 0, 1, 1, 1, 1, 1, 1, 1, 1, 0},
		2: {0, 1, 0, 2, 3, 3, 3, 3, 0},
		3: {1, 2, 15, 15, 0},
		4: {18, 255, 0},
	} {
		if l := lmots.Digits(kind, h); !slices.Equal(l[:len(want)], want) {
			t.Error("of the kind", kind, ":", l)
		}
	}
}

func TestP41DigitsAnswersNewMemory(t *testing.T) {
	h := api.Hash{0x12, 0xff}
	for kind := range kinds {
		one, two := lmots.Digits(kind, h), lmots.Digits(kind, h)
		clear(one[:cap(one)])
		if !slices.Equal(two, digits(kind, h)) || !slices.Equal(lmots.Digits(kind, h), two) {
			t.Error("an answer shares memory:", two)
		}
	}
}

// Reckoned once by another program, from the chapter's words and another SHA-256.
func TestP41PublicAndSign(t *testing.T) {
	for kind, answers := range map[int][4][2]string{
		1: {
			{"df8762df7b251bd81bd7a98ab1dfb7c9e260316aad2a103d7742a9ca685a56f0", "47b3fa3df24473021fe443bfbb59e6fe0649a85e583ba449806e11ddf27d99a7"},
			{"b2bcdec03e412bc04bc58d8071e37eaf1b7073cd39dccf4c2f6f5eb7a206c909", "08f351875f6ce4f8d0e1e65375741f09cd6ad682ab2db7f3cacb2d4a4bedd464"},
			{"7d10cb30f382bfc5bd1a3641eee223c9a2f82a95f171d71aff887d0ba34197e4", "ebd45a3d32aa1767be249bd0b687fc972b9c6be81d73e072d10fa757e3349a5b"},
			{"0960cf0f6f0069f9ed8aa86dea16428de8431c18802eb20f047f63efde2c64eb", "00acbe20d7b96de6a203cbdebe30b457df1d9548632e7e87c34c2d92cf0b292c"},
		},
		2: {
			{"2c28b9a02449e0b5ecbd09e395168c0304e17a34412a7228713965156200391f", "8984e6bfc26ac70340fc8ff90272836df9034c80b4db29a6d578391781ff4646"},
			{"ea02eed3fbef6c7914829b7cd1747cb5139d21632dc9de0f87299be9ab06948b", "8685403486b24202935013d7aa4c66e3f85cc65356f51214c01286135542289e"},
			{"97dc48fe6bb3b03f5c1a54055cd2fbb5aa3d83685956154ed3badd409e390d7f", "b8288c484a415a37cdf71f1b648e7cfb98d9ee9a8c4956d68ef835d5054f96af"},
			{"b4c00cb8b19c64c0160caafe0edb1e369f954ddc40a872675da1e27200fe2578", "15dc4737c13dfa23cc968c50e090eac47300e050e0c736e6d97bf4421b40375c"},
		},
		3: {
			{"fcedba4ecc4ee058123716be18c37c19364618f4be3acc5d9abe57436e57aa2b", "10515b92f36016773ec0a14e5cd6ae38ef6f54d17b6b67510e8865b4622734df"},
			{"197d53598509b10769cb768cc0f550915772625d8622a0095d6a42734f433687", "f2145ff74f4fcb40723404fdfe69753082a44c1921414c186f63c2787c2c2ff5"},
			{"3c45153e762f6893b71e08d0242c2ecce3346ed75820e8b069a8d7c103d494dc", "a486731e063a225c7c304e5964ce7f5838565838311b8a927400cd3f7fff3c92"},
			{"a37cbfd3e17e34761d7485f8b85815c10ef186d219271bde8918510075e34e93", "45e499882911fc8dd5ac70dd077a11970d688e69bc81323f86cdece0b3c18d5c"},
		},
		4: {
			{"30caeb690254345f3f470a706314ff8687e36b97c6f35c68981bcc876df420b3", "dcc220df664c89a694fa8089bbbd2f5395e0c69d6b8445993ff47f2fc5e5b07a"},
			{"cd445ca0146f0d47e642df51536134149e110d62092f3e7db1a214aa70ec1d08", "40ea0eace0f5dd34daf90829e46e6c375d57be5fabd05983621abd20caedc4c3"},
			{"a478c92ea11e97bcb53b596175f9a13e482c5ea97f6de18e71e92c1be9c7a1d8", "7ae3462b05942e88b7f57592ce1c7594780875730d6a9e295c6f67dad82e87f1"},
			{"d80c7e2389d1c4d7812429b61952981c7d6ea7066ff022bdc4bd5e9c0c0a83a7", "5adabd9dcc8913d45992f35900d1c911bcc15e72e1d28c892a697f48a8e0ffd0"},
		},
	} {
		for i, g := range givens() {
			if h := public(t, kind, g); fmt.Sprintf("%x", h[:]) != answers[i][0] {
				t.Errorf("Public of the kind %d, %d: %x", kind, i, h)
			}
			if h := hash.Sum(sign(t, kind, g)); fmt.Sprintf("%x", h[:]) != answers[i][1] {
				t.Errorf("Sign of the kind %d, %d: another signature", kind, i)
			}
		}
	}
}

func TestP41AsTheChapterHasIt(t *testing.T) {
	chance := rand.New(rand.NewSource(42))
	for kind := range kinds {
		l := append(givens(), anyGiven(chance), anyGiven(chance), anyGiven(chance))
		for _, g := range l {
			h, s := model(kind, g)
			if public(t, kind, g) != h {
				t.Error("another public key of the kind", kind)
			}
			if made := sign(t, kind, g); len(made) != lmots.Size(kind) || !bytes.Equal(made, s) {
				t.Error("another signature of the kind", kind)
			}
		}
	}
}

// A message of no bytes is one, and a long one is signed whole.
func TestP41Messages(t *testing.T) {
	g := givens()[1]
	for kind := range kinds {
		none, empty := g, g
		none.message, empty.message = nil, []byte{}
		if !bytes.Equal(sign(t, kind, none), sign(t, kind, empty)) {
			t.Error("nil is another message than none")
		}
		long, other := g, g
		long.message = counted(300000)
		other.message = append(counted(299999), 9)
		_, s := model(kind, long)
		if made := sign(t, kind, long); !bytes.Equal(made, s) || bytes.Equal(made, sign(t, kind, other)) {
			t.Error("a long message, of the kind", kind)
		}
	}
}

func TestP41LeavesWhatIsHandedIn(t *testing.T) {
	for kind := range kinds {
		g := givens()[1]
		room := []byte("hi and more")
		g.message = room[:2]
		made := sign(t, kind, g)
		want := slices.Clone(made)
		spare := append(slices.Clone(made), 1, 2, 3)
		before := slices.Clone(spare)
		if _, ok := lmots.Recover(g.id, g.q, g.message, spare[:len(made)]); !ok {
			t.Error("not recovered")
		}
		if string(room) != "hi and more" || !bytes.Equal(spare, before) {
			t.Error("what was handed in is changed")
		}
		clear(room)
		if !bytes.Equal(made, want) {
			t.Error("a signature hangs on its message")
		}
		clear(made[:cap(made)])
		g.message = []byte("hi")
		if !bytes.Equal(sign(t, kind, g), want) {
			t.Error("a signature shares memory with another one")
		}
	}
}
