package hash_test

import (
	"bytes"
	"math/rand"
	"slices"
	"testing"

	"rolodex/hash"
)

func TestP21Text(t *testing.T) {
	for _, c := range []struct {
		tag   byte
		parts [][]byte
		want  []byte
	}{
		{0, nil, []byte{0}},
		{255, [][]byte{}, []byte{255}},
		{1, [][]byte{nil}, []byte{1, 0, 0, 0, 0}},
		{1, [][]byte{{}}, []byte{1, 0, 0, 0, 0}},
		{1, [][]byte{nil, {}, nil}, append([]byte{1}, make([]byte, 12)...)},
		{7, [][]byte{{97}}, []byte{7, 0, 0, 0, 1, 97}},
		{7, [][]byte{{97}, nil}, []byte{7, 0, 0, 0, 1, 97, 0, 0, 0, 0}},
		{7, [][]byte{nil, {97}}, []byte{7, 0, 0, 0, 0, 0, 0, 0, 1, 97}},
		{7, [][]byte{{1, 2}, {3}, {4, 5, 6}}, []byte{7, 0, 0, 0, 2, 1, 2, 0, 0, 0, 1, 3, 0, 0, 0, 3, 4, 5, 6}},
	} {
		if b := hash.Text(c.tag, c.parts...); !bytes.Equal(b, c.want) {
			t.Error(c.tag, c.parts, b)
		}
		if hash.Tagged(c.tag, c.parts...) != hash.Sum(c.want) {
			t.Error(c.tag, c.parts, "another hash")
		}
	}
}

// A part's number of bytes takes all of its four bytes.
func TestP21TextOfLongParts(t *testing.T) {
	for _, n := range []int{255, 256, 65535, 65536, 1<<24 + 0x010203} {
		part := counted(n)
		b := hash.Text(3, part, []byte{9})
		want := append([]byte{3, byte(n >> 24), byte(n >> 16), byte(n >> 8), byte(n)}, part...)
		want = append(want, 0, 0, 0, 1, 9)
		if !bytes.Equal(b, want) {
			t.Error("another text of", n, "bytes")
		}
	}
}

func TestP21Tagged(t *testing.T) {
	seed := counted(32)
	wantHash(t, "7 a", hash.Tagged(7, []byte("a")), "423b307a753adfc25d281a0eab51789fa1679363601d8633f17ddf206037c5c2")
	wantHash(t, "7 a and none", hash.Tagged(7, []byte("a"), nil), "36a39baf844943f22e3724ab7338117cb84c6552d74bcb3572b38201ddf15c70")
	wantHash(t, "0", hash.Tagged(0), "6e340b9cffb37a989ca544e6bb780a2c78901d3fb33738768511a30617afa01d")
	wantHash(t, "255", hash.Tagged(255), "a8100ae6aa1940d0b663bb31cd466142ebbdbd5187131b92d93818987832eb89")
	wantHash(t, "0 and none", hash.Tagged(0, nil), "8855508aade16ec573d21e6a485dfd0a7624085c1a14b5ecdd6485de0c6839a4")
	wantHash(t, "105", hash.Tagged(105, seed), "b76b3069a8d37cc5000fef218ec3a8ce58c9311a417e8c4799cf44c758164b49")
	wantHash(t, "115", hash.Tagged(115, seed, []byte{0, 0, 0, 3}), "91f490b33feaa64bbf36298d8590aa26563cba6d78ef5d60aa1a52152c09a14a")
	wantHash(t, "a long one", hash.Tagged(1, counted(70000), []byte("x")), "a3feeb1d70dcf3ef8a8760e60c9ae53a41ddd4bc2ae1545baf4b370f05ec15dd")
}

func TestP21TextKeepsNothingHandedIn(t *testing.T) {
	room := []byte{1, 2, 3, 4}
	parts := [][]byte{room[:2], room[1:3], room[:2]}
	spare := [][]byte{parts[0], parts[1], {5}, {6}}
	want := []byte{7, 0, 0, 0, 2, 1, 2, 0, 0, 0, 2, 2, 3, 0, 0, 0, 2, 1, 2}
	b := hash.Text(7, parts...)
	hash.Text(7, spare[:2]...)
	hash.Tagged(7, spare[:2]...)
	if !slices.Equal(room, []byte{1, 2, 3, 4}) || len(parts[0]) != 2 || spare[2][0] != 5 || spare[3][0] != 6 {
		t.Error("what was handed in is changed:", room, parts, spare)
	}
	clear(room)
	clear(parts)
	if !bytes.Equal(b, want) {
		t.Error("the text hangs on what was handed in:", b)
	}
}

func TestP21TextAnswersNewMemory(t *testing.T) {
	part := []byte{1, 2, 3}
	one, two := hash.Text(7, part), hash.Text(7, part)
	clear(one)
	clear(one[len(one):cap(one)])
	want := []byte{7, 0, 0, 0, 3, 1, 2, 3}
	if !bytes.Equal(two, want) || !bytes.Equal(part, want[5:]) || !bytes.Equal(hash.Text(7, part), want) {
		t.Error("an answer shares memory:", two, part)
	}
}

// A source has what a text is made of.
type source struct {
	tag   byte
	parts [][]byte
}

func (s source) same(other source) bool {
	return s.tag == other.tag && slices.EqualFunc(s.parts, other.parts, bytes.Equal)
}

func (s source) text() []byte {
	return hash.Text(s.tag, s.parts...)
}

// wantSameJustIf holds all sources against one another.
func wantSameJustIf(t *testing.T, l []source) {
	t.Helper()
	for _, a := range l {
		for _, b := range l {
			if bytes.Equal(a.text(), b.text()) != a.same(b) {
				t.Fatal("texts of", a, "and", b, ":", a.text(), b.text())
			}
			if (hash.Tagged(a.tag, a.parts...) == hash.Tagged(b.tag, b.parts...)) != a.same(b) {
				t.Fatal("hashes of", a, "and", b)
			}
			if hash.Clash(a.text(), b.text()) {
				t.Fatal("a clash of", a, "and", b)
			}
		}
	}
}

// The same bytes, cut elsewhere; parts that look like the numbers ahead of parts.
func TestP22TextsThatAreNearlyTheSame(t *testing.T) {
	wantSameJustIf(t, []source{
		{7, nil},
		{8, nil},
		{7, [][]byte{{}}},
		{7, [][]byte{nil}},
		{7, [][]byte{nil, nil}},
		{0, [][]byte{nil}},
		{7, [][]byte{{0}}},
		{7, [][]byte{{0, 0, 0, 0}}},
		{7, [][]byte{{0, 0, 0, 0, 0}}},
		{7, [][]byte{{1, 2}}},
		{7, [][]byte{{1}, {2}}},
		{7, [][]byte{{2}, {1}}},
		{7, [][]byte{{1, 2}, nil}},
		{7, [][]byte{nil, {1, 2}}},
		{8, [][]byte{{1, 2}}},
		{7, [][]byte{{1, 0, 0, 0, 1, 2}}},
		{7, [][]byte{counted(255)}},
		{7, [][]byte{counted(256)}},
		{7, [][]byte{counted(256), nil}},
		{7, [][]byte{counted(100), counted(256)[100:]}},
		{7, [][]byte{counted(256)[:156], counted(256)[156:]}},
		{7, [][]byte{counted(65536)}},
		{7, [][]byte{counted(65536 + 256)}},
	})
}

func anySource(chance *rand.Rand) source {
	s := source{tag: byte(chance.Intn(3)), parts: make([][]byte, chance.Intn(4))}
	for i := range s.parts {
		s.parts[i] = make([]byte, chance.Intn(4))
		for j := range s.parts[i] {
			s.parts[i][j] = byte(chance.Intn(2))
		}
	}
	return s
}

func TestP22SameJustIfTagsAndPartsAre(t *testing.T) {
	chance := rand.New(rand.NewSource(22))
	l := make([]source, 400)
	for i := range l {
		l[i] = anySource(chance)
	}
	wantSameJustIf(t, l)
}

// back takes a text apart, by the numbers in it alone.
func back(b []byte) source {
	s := source{tag: b[0]}
	for b = b[1:]; len(b) > 0; {
		n := int(b[0])<<24 | int(b[1])<<16 | int(b[2])<<8 | int(b[3])
		s.parts = append(s.parts, b[4:4+n])
		b = b[4+n:]
	}
	return s
}

func TestP22TagAndPartsComeBack(t *testing.T) {
	chance := rand.New(rand.NewSource(23))
	for range 1000 {
		s := anySource(chance)
		s.parts = append(s.parts, counted(chance.Intn(1000)))
		if o := back(s.text()); !o.same(s) {
			t.Fatal(s, "comes back as", o)
		}
	}
}
