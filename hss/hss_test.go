package hss_test

import (
	"bytes"
	"encoding/hex"
	"math"
	"math/rand"
	"slices"
	"testing"

	"rolodex/api"
	"rolodex/hash"
	"rolodex/hss"
)

func TestP61Examples(t *testing.T) {
	if n := signer(t, shape{1, 2, 3}, givens()[1]).Keys(); n != 8 {
		t.Error("Keys:", n)
	}
}

func TestP61Keys(t *testing.T) {
	for _, c := range quickShapes() {
		if n, want := signer(t, c, givens()[0]).Keys(), []int{0, 2, 4, 8, 16}[c.top]*[]int{0, 2, 4, 8, 16}[c.bottom]; n != want {
			t.Error("Keys of", c, ":", n)
		}
	}
}

func TestP61Size(t *testing.T) {
	for _, c := range shapes() {
		if n, want := hss.Size(c.top, c.bottom, c.kind), 60+2*[]int{0, 8524, 4300, 2188, 1132}[c.kind]+32*(c.top+c.bottom); n != want {
			t.Error("Size of", c, ":", n)
		}
	}
	for _, c := range quickShapes() {
		s := signer(t, c, givens()[1])
		if b := sign(t, s, 1, nil); len(b) != hss.Size(c.top, c.bottom, c.kind) {
			t.Error("a signature's size, of", c, ":", len(b))
		}
		if b := s.Public(); len(b) != 60 {
			t.Error("a public key's size, of", c, ":", len(b))
		}
	}
}

func TestP61OfWhatMayNotBe(t *testing.T) {
	for _, c := range noShapes() {
		if s, e := hss.New(c.top, c.bottom, c.kind, api.Hash{1}); s != nil || e != api.ErrArg {
			t.Error("New of", c, ":", s, e)
		}
		if n := hss.Size(c.top, c.bottom, c.kind); n != 0 {
			t.Error("Size of", c, ":", n)
		}
	}
}

// Reckoned once by another program, from the chapters' words and another SHA-256: the top tree's
// id and node 1, and the hash of all signatures of the given's message, one behind the other.
func TestP61PublicAndSign(t *testing.T) {
	for _, c := range []struct {
		shape
		given              int
		public, signatures string
	}{
		{shape{1, 1, 4}, 0, "c8e32ae2fd8a0983f42374c940382b3ec06a46850a6d92c012eb6b8de3d4045b0904bfd8d7f695b92c575a4cf820bc76", "1a80f1700c4cd1e81a37d7dcf1e83822b21bfef6074a20895b2e317eff7f9ae2"},
		{shape{1, 2, 2}, 1, "4562be10557d1c85b678d2cede65b2bb61a6fbe086bfee2a7e455cd525ff52349b0e0f856adb8e180fada4369985a51b", "9b060a86aa3ea9c93fc0881614a9e49c9a74f6c09b683a8050a406ed0e8860d6"},
		{shape{1, 3, 4}, 2, "b76b3069a8d37cc5000fef218ec3a8cedee60b2aaac42fed30b918b79ae83ffecbe1ad6967de2ba90d6f0b5c074e7f80", "8fe902455b6490c2bc280ee7875cddcf538bb63880785946f0e3e3686902df22"},
		{shape{1, 4, 2}, 0, "c8e32ae2fd8a0983f42374c940382b3e82591df650d4bcf57e49fb7738031569d002bd3cd851fc35c0b92f72ee673238", "6135dadc5e4c14b7814d34d335eaeea34661303e3e7efb655dd01640db85efc9"},
		{shape{2, 1, 1}, 1, "4562be10557d1c85b678d2cede65b2bb97980fb22e808bf5355b7a8da37551c6f3afb05f4caf128e67c9af6e0fb5877c", "f38d800f95b228a074bf11a51d4c64badf3f8324e7e51b3e5dbebbc58d4a4d24"},
		{shape{2, 2, 3}, 2, "b76b3069a8d37cc5000fef218ec3a8ce28c424bab76a25daf2d2e9ab54b40c1c5080e8f290ddaa907ccdfc2292d9dd44", "2b1a8f88b4e2478c81c6703136a07e96ffbc2d2a89f19c5a020ca49f8cbf16e8"},
		{shape{2, 3, 1}, 0, "c8e32ae2fd8a0983f42374c940382b3e94df25877115c785124b858d03feb1b8bd1e6330a891b76ac4f7eeb2359cf924", "6df28756a78d071299174e848cbdc35fdc5446e7eb4fac4d6aaeb7c26ab30317"},
		{shape{2, 4, 3}, 1, "4562be10557d1c85b678d2cede65b2bbb2c15660918f94742b1b3e29854efd33578cd46f8a5e01182cdbbcc638400235", "7ffbec6ddc4692cc8053c349ff6e830bf87dab3888a2e5d6cbc2761f45514414"},
		{shape{3, 1, 3}, 2, "b76b3069a8d37cc5000fef218ec3a8ce919f53ee33f14a4c6480e0549856b6beba12fde2c70bec2b97ae776bb5a69cdd", "0281b8cd3dfbd57123c15d5d63bb973de3ccecb04077e51fef16b0750224ab31"},
		{shape{3, 2, 1}, 0, "c8e32ae2fd8a0983f42374c940382b3eadf5bcc34c1cfe387571e7cd28059e25816a8d2d63516b7f963972ad5043fba2", "7c2d7691f94206e7bf9811aaa3349f072be0ee6ca20973ba89ea7f2910de536e"},
		{shape{3, 3, 3}, 1, "4562be10557d1c85b678d2cede65b2bb18d3d9bca0a8b8bacb291c3e44b44f47b32b018017dc3ea8fb70c821be4c87e8", "2a6fab51a5c41e67590d6d0bd2502a6ed4ed4e24aa73ea58b39580c1bd6cd26e"},
		{shape{3, 4, 1}, 2, "b76b3069a8d37cc5000fef218ec3a8cee9cd2a9c19fb3917b7e8e62ef4b26d621a0f615404d4131d4bb90b11a4502470", "98c420601567e819760b0bb343ee311c991536ae91932a2b7c2b884aacb3d720"},
		{shape{4, 1, 4}, 0, "c8e32ae2fd8a0983f42374c940382b3e013663e4533354772f974fba2bfc5cfa848ddf9c6c75ac5f60299cc08028d32f", "ab3074333a858cd570b9c79dd8d85385c99b6c474b40f6964eaa485b6800a579"},
		{shape{4, 2, 2}, 1, "4562be10557d1c85b678d2cede65b2bba46f3f5edc5f1e2c162fab188b492e18b5f38cdd03f29655d7a8c04f5f57fd93", "7eff4934234b8876d1300102bad092c0baaadbaaf4779b63f045fc98f26fa20e"},
		{shape{4, 3, 4}, 2, "b76b3069a8d37cc5000fef218ec3a8ceda06202989b5a49996f4398139a6f0f6f8038f8d94c2c5054f788b9eda3e9bfa", "c8b252a62610bc260e80f27e8e4dc7252ae9e09dc2f93bf4f564a043da1d4de0"},
		{shape{4, 4, 3}, 0, "c8e32ae2fd8a0983f42374c940382b3e3fbb25a694c7000b267567464486f85b91c6e10203c3a49dd6dc4a412d45dcb7", "59c5654a0fcb088e1158b8161da11ca124050f0225eefccd25852734920d897b"},
	} {
		if testing.Short() && c.kind == 4 {
			continue
		}
		g := givens()[c.given]
		s := signer(t, c.shape, g)
		front := []byte{0, 0, 0, 2, 0, 0, 0, byte(c.top), 0, 0, 0, byte(c.kind)}
		if b := s.Public(); len(b) != 60 || !bytes.HasPrefix(b, front) || hex.EncodeToString(b[12:]) != c.public {
			t.Errorf("Public of %v: %x", c.shape, b)
		}
		var all []byte
		for n := range s.Keys() {
			all = append(all, sign(t, s, n, g.message)...)
		}
		if h := hash.Sum(all); hex.EncodeToString(h[:]) != c.signatures {
			t.Error("Sign of", c.shape, ": other signatures")
		}
	}
}

func TestP61AsTheChapterHasIt(t *testing.T) {
	chance := rand.New(rand.NewSource(61))
	for _, c := range quickShapes() {
		g := anyGiven(chance)
		s, m := signer(t, c, g), newModel(c, g)
		if !bytes.Equal(s.Public(), m.public()) {
			t.Error("another public key, of", c)
		}
		for _, n := range some(c) {
			if !bytes.Equal(sign(t, s, n, g.message), m.sign(n)) {
				t.Error("another signature, of", c, "the number", n)
			}
		}
	}
}

func TestP61SignBeyondTheKeys(t *testing.T) {
	for _, c := range quickShapes() {
		s := signer(t, c, givens()[1])
		k := s.Keys()
		for _, n := range []int{-1, -2, -k, k, k + 1, 2 * k, 256, 1 << 32, 1<<32 + 1, -1 << 32, math.MinInt, math.MinInt + 1, math.MaxInt} {
			wantNotSigned(t, s, n, api.ErrSpent)
		}
		sign(t, s, 0, nil)
		sign(t, s, k-1, nil)
		wantNotSigned(t, s, k, api.ErrSpent)
	}
}

func TestP61NilSigner(t *testing.T) {
	var s *hss.Signer
	if n, b := s.Keys(), s.Public(); n != 0 || len(b) != 0 {
		t.Error("no signer has keys, or a public key:", n, b)
	}
	for _, n := range []int{0, 1, 255, 256, -1, math.MinInt, math.MaxInt} {
		wantNotSigned(t, s, n, api.ErrArg)
	}
}

// What New didn't make has no n-th signature.
func TestP61ZeroSigner(t *testing.T) {
	s := new(hss.Signer)
	if n, b := s.Keys(), s.Public(); n != 0 || len(b) != 0 {
		t.Error("a zero signer has keys, or a public key:", n, b)
	}
	for _, n := range []int{0, 1, -1, math.MinInt, math.MaxInt} {
		wantNotSigned(t, s, n, api.ErrSpent)
	}
}

func TestP61Messages(t *testing.T) {
	g := givens()[1]
	s := signer(t, shape{1, 1, 2}, g)
	if !bytes.Equal(sign(t, s, 1, nil), sign(t, s, 1, []byte{})) {
		t.Error("nil is another message than none")
	}
	for _, n := range []int{0, 1, 55, 56, 57, 60, 64, 8192, 300000} {
		g.message = counted(n)
		if !bytes.Equal(sign(t, s, 1, g.message), newModel(shape{1, 1, 2}, g).sign(1)) {
			t.Error("another signature of", n, "bytes")
		}
	}
}

func TestP61AnswersNewMemory(t *testing.T) {
	c, g := shape{2, 1, 2}, givens()[1]
	s, m := signer(t, c, g), newModel(c, g)
	for range 2 {
		for n := range s.Keys() {
			b, a := s.Public(), sign(t, s, n, g.message)
			clear(b[:cap(b)])
			clear(a[:cap(a)])
			if !bytes.Equal(s.Public(), m.public()) || !bytes.Equal(sign(t, s, n, g.message), m.sign(n)) {
				t.Error("an answer shares memory, at the number", n)
			}
		}
	}
}

func TestP61LeavesWhatIsHandedIn(t *testing.T) {
	g := givens()[1]
	s, room := signer(t, shape{2, 2, 2}, g), []byte("hi and more")
	a := sign(t, s, 13, room[:2])
	want := slices.Clone(a)
	if string(room) != "hi and more" {
		t.Error("a message is changed:", room)
	}
	clear(room)
	if !bytes.Equal(a, want) {
		t.Error("a signature hangs on its message")
	}
	message, public, signature := []byte("hi+"), append(s.Public(), 5, 6), append(a, 7, 8)
	if !hss.Verify(public[:60], message[:2], signature[:len(want)]) {
		t.Error("what was signed isn't right")
	}
	if string(message) != "hi+" || !bytes.Equal(public, append(s.Public(), 5, 6)) || !bytes.Equal(signature, append(want, 7, 8)) {
		t.Error("what was handed in is changed")
	}
}
