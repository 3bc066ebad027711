package lms_test

import (
	"bytes"
	"encoding/hex"
	"math"
	"math/rand"
	"slices"
	"testing"

	"rolodex/api"
	"rolodex/hash"
	"rolodex/lms"
)

func TestP51Examples(t *testing.T) {
	if n := tree(t, 2, 1, givens()[1]).Keys(); n != 4 {
		t.Error("Keys:", n)
	}
	if n := lms.Size(2, 3); n != 4+2180+4+64 {
		t.Error("Size:", n)
	}
}

func TestP51Keys(t *testing.T) {
	for _, c := range shapes() {
		if n, want := tree(t, c[0], c[1], givens()[0]).Keys(), []int{0, 2, 4, 8, 16}[c[0]]; n != want {
			t.Error("Keys of", c, ":", n)
		}
	}
}

func TestP51Size(t *testing.T) {
	for _, c := range shapes() {
		want := []int{0, 8524, 4300, 2188, 1132}[c[1]] + 32*c[0]
		if n := lms.Size(c[0], c[1]); n != want {
			t.Error("Size of", c, ":", n)
		}
		if n := len(sign(t, tree(t, c[0], c[1], givens()[2]), 1, nil)); n != want {
			t.Error("a signature's size, of", c, ":", n)
		}
	}
}

func TestP51OfWhatMayNotBe(t *testing.T) {
	g := givens()[1]
	for _, c := range noShapes() {
		if x, e := lms.New(c[0], c[1], g.id, g.seed); x != nil || e != api.ErrArg {
			t.Error("New of", c, ":", x, e)
		}
		if n := lms.Size(c[0], c[1]); n != 0 {
			t.Error("Size of", c, ":", n)
		}
	}
}

// Reckoned once by another program, from the chapter's words and another SHA-256: the node 1,
// and the hash of all keys' signatures of the given's message, one behind the other.
func TestP51PublicAndSign(t *testing.T) {
	for _, c := range []struct {
		height, kind, given int
		top, signatures     string
	}{
		{1, 1, 0, "cfc4c1bad5e55cb7524540577a89c82000c26bda9ab68dc14df149605d6930c4", "e56fb784032f1513340fb82085ff3b3749e17c0a524b855aeb72151a50386ec1"},
		{1, 2, 1, "61131e4c580fa869250a096f9847f602116dc0191d9dcf5a5715d6d08ecdd9c8", "3022ee502af818292ae9b8636ff16515013d98ddbeb3d131506adcc808932d79"},
		{1, 3, 2, "6e99f11f25f87e809aa8a198564a8bda8bf27c1527e26b52d7ebcabe8e41cfb8", "6f3fa8e6bf13e204e9c636cf09984001e9043ff7eb3794e50e04997834fe6eb8"},
		{1, 4, 0, "a9c8e3015afc6d52a7e0c67c9fa5ab376dae93b1790af60a65ce7ff13ff71da1", "4be91e45fd400585b3561695814c78be22e886d29a2487d573f518a0ff45c573"},
		{2, 1, 1, "52fcc2cdc7f543698338955141262f00db1d34e834dccec70ff55380576b5ec2", "a4811e81bdf8c5dac74f9757cf61e5dd0c78fd44eb1a0bbafefca8846495257d"},
		{2, 2, 2, "61de6d533924a49247ded7e980402eb6161a0a6ed99425154013566350f6bbc5", "22138315caf5a056e07ad133c76205d78cea0ce33cea5ef86370e84e8dbc845a"},
		{2, 3, 0, "873887dbaf75677adb73854eac39dac40dd03d4ded5856b80ac043ae0d5715ba", "64913acf59ee9192403ee1496de900eebc38d8582aed6cbdb153428f4368e7fe"},
		{2, 4, 1, "884918faf2008bdb48381542493f4a4fab1118784d0e693d3c0221c090b4da3a", "6434cb78496bedcde416270b7a92178bf2e2744f9d96cf6981f4254c90e1feed"},
		{3, 1, 2, "d57c3232019bb9c92b4df2bde1f3ac63720782a9a7f2df3e531bfc303761910f", "5a4b955893ecc105dd5f7f25162f323654e7fcec55ad69f725a062426361e58e"},
		{3, 2, 0, "d87282395603d288b68271ebf4e0204f8262e64bd39f8999f1e1f71ec846e73b", "f948d6cef8b60f2e04cdd99dac78da0b3a6a2d481d99163ba0f4269c5bb9e361"},
		{3, 3, 1, "33b311522deae24e8ce3f3390d414bfa2d0e2f846ac5f8aeaf16c7fee6f01110", "5194254351fdf0bab188aea836c233e915f8e33809c9f1afa2c18f1430427f53"},
		{3, 4, 2, "fff38e279ebab056b5f70a60b923e8c5730b1f1e3f697ff824d8e797b10f81e2", "00488ef5411fcf7aef7409dc355745962b3e93eccf9cc404779084c9fe833aad"},
		{4, 1, 0, "1f515768921e6160177c095c0d4fd4163cf97055d5e4406ccefdbc2a7770dff6", "98b12aeaa2a2b88f632c6c17834e3d2688ce07742103e4d2ed81588b4d5d7144"},
		{4, 2, 1, "c421243b96d1b316a0a47ab8f9ff9c3c4d4862af46675050c778b9d572b4b290", "8b242ac0d4f6f9ee8dbe9c8a3b00ad3fe4c901f01690f343e86fa10b652db148"},
		{4, 3, 2, "887cc25e6dedff1e975796311db8e2d3a89580b47ebb4b5dc98389429083390f", "c44c0aeda1d604a7af0f60e1acaeacd09a880bf6ef9dc7a29cc33ec1a3b5ed05"},
		{4, 4, 0, "9a3a22d18feabbe0e739745c5231b767bc6a28f392ff02cbead91bd4ef727e8c", "40378278d4d4bf792b4c6fd55e27ca10cdb9038708daa5a097be6e1ce7bf0377"},
	} {
		g := givens()[c.given]
		x := tree(t, c.height, c.kind, g)
		front := slices.Concat([]byte{0, 0, 0, byte(c.height), 0, 0, 0, byte(c.kind)}, g.id[:])
		if b := x.Public(); len(b) != 56 || !bytes.HasPrefix(b, front) || hex.EncodeToString(b[24:]) != c.top {
			t.Errorf("Public of the height %d and the kind %d: %x", c.height, c.kind, b)
		}
		var all []byte
		for q := range x.Keys() {
			all = append(all, sign(t, x, q, g.message)...)
		}
		if h := hash.Sum(all); hex.EncodeToString(h[:]) != c.signatures {
			t.Error("Sign of the height", c.height, "and the kind", c.kind, ": other signatures")
		}
	}
}

func TestP51AsTheChapterHasIt(t *testing.T) {
	chance := rand.New(rand.NewSource(51))
	for _, c := range shapes() {
		g := anyGiven(chance)
		x, m := tree(t, c[0], c[1], g), newModel(c[0], c[1], g)
		if !bytes.Equal(x.Public(), m.public()) {
			t.Error("another public key, of", c)
		}
		for q := range x.Keys() {
			if !bytes.Equal(sign(t, x, q, g.message), m.sign(q)) {
				t.Error("another signature, of", c, "by the key", q)
			}
		}
	}
}

func wantNotSigned(t *testing.T, x *lms.Tree, q int, want api.Errno) {
	t.Helper()
	if s, e := x.Sign(q, []byte("hi")); len(s) != 0 || e != want {
		t.Error("Sign by the key", q, ":", len(s), "bytes,", e)
	}
}

func TestP51SignBeyondTheKeys(t *testing.T) {
	for _, c := range shapes() {
		x := tree(t, c[0], c[1], givens()[1])
		n := x.Keys()
		for _, q := range []int{-1, -2, -n, n, n + 1, 2 * n, 1 << 32, 1<<32 + 1, -1 << 32, math.MinInt, math.MinInt + 1, math.MaxInt} {
			wantNotSigned(t, x, q, api.ErrSpent)
		}
		sign(t, x, 0, nil)
		sign(t, x, n-1, nil)
	}
}

func TestP51NilTree(t *testing.T) {
	var x *lms.Tree
	if n, b := x.Keys(), x.Public(); n != 0 || len(b) != 0 {
		t.Error("no tree has keys, or a public key:", n, b)
	}
	for _, q := range []int{0, 1, 15, 16, -1, math.MinInt, math.MaxInt} {
		wantNotSigned(t, x, q, api.ErrArg)
	}
}

// What New didn't make has no q-th key.
func TestP51ZeroTree(t *testing.T) {
	x := new(lms.Tree)
	if n, b := x.Keys(), x.Public(); n != 0 || len(b) != 0 {
		t.Error("a zero tree has keys, or a public key:", n, b)
	}
	for _, q := range []int{0, 1, -1, math.MaxInt} {
		wantNotSigned(t, x, q, api.ErrSpent)
	}
}

// A tree counts nothing: what was signed ahead, and what was refused, changes no answer.
func TestP51InAnyOrder(t *testing.T) {
	g := givens()[1]
	x, m := tree(t, 3, 2, g), newModel(3, 2, g)
	for _, q := range []int{7, 0, 8, 7, 3, -1, 3, 0, 6, 5, 4, 100, 2, 1} {
		if q < 0 || q > 7 {
			wantNotSigned(t, x, q, api.ErrSpent)
		} else if !bytes.Equal(sign(t, x, q, g.message), m.sign(q)) {
			t.Error("another signature by the key", q)
		}
		if x.Keys() != 8 || !bytes.Equal(x.Public(), m.public()) {
			t.Error("another tree behind the key", q)
		}
	}
}

func TestP51Messages(t *testing.T) {
	g := givens()[1]
	x := tree(t, 1, 2, g)
	if !bytes.Equal(sign(t, x, 1, nil), sign(t, x, 1, []byte{})) {
		t.Error("nil is another message than none")
	}
	for _, n := range []int{0, 1, 63, 64, 8192, 300000} {
		g.message = counted(n)
		if !bytes.Equal(sign(t, x, 1, g.message), newModel(1, 2, g).sign(1)) {
			t.Error("another signature of", n, "bytes")
		}
	}
}

func TestP51TreesAreApart(t *testing.T) {
	g, h := givens()[1], givens()[2]
	x, m := tree(t, 2, 1, g), newModel(2, 1, g)
	y, n := tree(t, 3, 2, h), newModel(3, 2, h)
	for q := range 4 {
		if !bytes.Equal(sign(t, x, q, g.message), m.sign(q)) || !bytes.Equal(sign(t, y, q, h.message), n.sign(q)) {
			t.Error("a tree hangs on another one, at the key", q)
		}
	}
	if !bytes.Equal(x.Public(), m.public()) || !bytes.Equal(y.Public(), n.public()) {
		t.Error("a public key hangs on another tree")
	}
}

func TestP51AnswersNewMemory(t *testing.T) {
	for _, c := range shapes() {
		g := givens()[1]
		x, m := tree(t, c[0], c[1], g), newModel(c[0], c[1], g)
		b, s := x.Public(), sign(t, x, 1, g.message)
		clear(b[:cap(b)])
		clear(s[:cap(s)])
		if !bytes.Equal(x.Public(), m.public()) || !bytes.Equal(sign(t, x, 1, g.message), m.sign(1)) {
			t.Error("an answer shares memory, of", c)
		}
	}
}

func TestP51LeavesWhatIsHandedIn(t *testing.T) {
	g := givens()[1]
	x, room := tree(t, 2, 2, g), []byte("hi and more")
	s := sign(t, x, 3, room[:2])
	want := slices.Clone(s)
	if string(room) != "hi and more" {
		t.Error("a message is changed:", room)
	}
	clear(room)
	if !bytes.Equal(s, want) {
		t.Error("a signature hangs on its message")
	}
	message, public, signature := []byte("hi+"), append(x.Public(), 5, 6), append(s, 7, 8)
	if !lms.Verify(public[:56], message[:2], signature[:len(want)]) {
		t.Error("what was signed isn't right")
	}
	if string(message) != "hi+" || !bytes.Equal(public, append(x.Public(), 5, 6)) || !bytes.Equal(signature, append(want, 7, 8)) {
		t.Error("what was handed in is changed")
	}
}
