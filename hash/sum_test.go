package hash_test

import (
	"bytes"
	"fmt"
	"slices"
	"strconv"
	"strings"
	"testing"

	"rolodex/api"
	"rolodex/hash"
)

// counted answers n bytes that go from 0 to 250 again and again.
func counted(n int) []byte {
	b := make([]byte, n)
	for i := range b {
		b[i] = byte(i % 251)
	}
	return b
}

func wantHash(t *testing.T, name string, h api.Hash, want string) {
	t.Helper()
	if got := fmt.Sprintf("%x", h[:]); got != want {
		t.Errorf("%s: %s, want %s", name, got, want)
	}
}

func TestP21Examples(t *testing.T) {
	h := hash.Sum([]byte("abc"))
	if !slices.Equal(h[:4], []byte{186, 120, 22, 191}) {
		t.Error("Sum:", h[:4])
	}
	if b := hash.Text(7, []byte("a")); !slices.Equal(b, []byte{7, 0, 0, 0, 1, 97}) {
		t.Error("Text:", b)
	}
}

// The published ones, and bytes whose sums carry everywhere.
func TestP21SumOfTexts(t *testing.T) {
	for _, c := range []struct{ text, want string }{
		{"", "e3b0c44298fc1c149afbf4c8996fb92427ae41e4649b934ca495991b7852b855"},
		{"abc", "ba7816bf8f01cfea414140de5dae2223b00361a396177a9cb410ff61f20015ad"},
		{
			"abcdbcdecdefdefgefghfghighijhijkijkljklmklmnlmnomnopnopq",
			"248d6a61d20638b8e5c026930c3e6039a33ce45964ff2167f6ecedd419db06c1",
		},
		{
			"abcdefghbcdefghicdefghijdefghijkefghijklfghijklmghijklmnhijklmnoijklmnopjklmnopqklmnopqrlmnopqrsmnopqrstnopqrstu",
			"cf5b16a778af8380036ce59e7b0492370b249b11e8f07a51afac45037afee9d1",
		},
		{strings.Repeat("a", 1000000), "cdc76e5c9914fb9281a1c7e284d73e67f1809a48a497200e046d39ccc7112cd0"},
		{strings.Repeat("\xff", 64), "8667e718294e9e0df1d30600ba3eeb201f764aad2dad72748643e4a285e1d1f7"},
		{strings.Repeat("\xff", 1000), "b4f73dff046400b76728ab32619e3d89e00132653725f660c62ab9fca975b372"},
	} {
		wantHash(t, strconv.Quote(c.text[:min(len(c.text), 9)]), hash.Sum([]byte(c.text)), c.want)
	}
}

// Where the noughts begin, end, or need one block more, and where the number of bits needs
// one byte more.
func TestP21SumOfLengths(t *testing.T) {
	for _, c := range []struct {
		n    int
		want string
	}{
		{0, "e3b0c44298fc1c149afbf4c8996fb92427ae41e4649b934ca495991b7852b855"},
		{1, "6e340b9cffb37a989ca544e6bb780a2c78901d3fb33738768511a30617afa01d"},
		{2, "b413f47d13ee2fe6c845b2ee141af81de858df4ec549a58b7970bb96645bc8d2"},
		{3, "ae4b3280e56e2faf83f414a6e3dabe9d5fbe18976544c05fed121accb85b53fc"},
		{54, "675f28acc0b90a72d1c3a570fe83ac565555db358cf01826dc8eefb2bf7ca0f3"},
		{55, "463eb28e72f82e0a96c0a4cc53690c571281131f672aa229e0d45ae59b598b59"},
		{56, "da2ae4d6b36748f2a318f23e7ab1dfdf45acdc9d049bd80e59de82a60895f562"},
		{57, "2fe741af801cc238602ac0ec6a7b0c3a8a87c7fc7d7f02a3fe03d1c12eac4d8f"},
		{62, "c89da82cbcd76ddf220e4e9091019b9866ffda72bee30de1effe6c99701a2221"},
		{63, "29af2686fd53374a36b0846694cc342177e428d1647515f078784d69cdb9e488"},
		{64, "fdeab9acf3710362bd2658cdc9a29e8f9c757fcf9811603a8c447cd1d9151108"},
		{65, "4bfd2c8b6f1eec7a2afeb48b934ee4b2694182027e6d0fc075074f2fabb31781"},
		{118, "d32ab00929cb935b79d44e74c5a745db460ff794dea3b79be40c1cc5cf5388ef"},
		{119, "da18797ed7c3a777f0847f429724a2d8cd5138e6ed2895c3fa1a6d39d18f7ec6"},
		{120, "f52b23db1fbb6ded89ef42a23ce0c8922c45f25c50b568a93bf1c075420bbb7c"},
		{121, "335a461692b30bba1d647cc71604e88e676c90e4c22455d0b8c83f4bd7c8ac9b"},
		{127, "92ca0fa6651ee2f97b884b7246a562fa71250fedefe5ebf270d31c546bfea976"},
		{128, "471fb943aa23c511f6f72f8d1652d9c880cfa392ad80503120547703e56a2be5"},
		{129, "5099c6a56203f9687f7d33f4bfdf576d31dc91f6b695ecea38b2770c87631135"},
		{8191, "a7ff4cc384f150c0763c051418a0084ded32bfa5863717ab5f35d3f43a5ffe1c"},
		{8192, "25df2449b2e5a35fea14e02a7158e283801a1069c9f84631b9a9dacb2f809a7f"},
		{2097151, "efce3efcbba94299b27237589f84eac495e51e03a1d600024d465c9bbf253740"},
		{2097152, "1e075c8d478ad21844e33e830a695ef03a4d2488b69ee275bd8947618bb1be1e"},
	} {
		b := counted(c.n)
		wantHash(t, "counted", hash.Sum(b), c.want)
		if !bytes.Equal(b, counted(c.n)) {
			t.Error(c.n, "bytes are changed")
		}
	}
}

// The number of bits of so many bytes needs more than 32 bits.
func TestP21SumOfVeryMany(t *testing.T) {
	if testing.Short() {
		t.Skip("takes some seconds")
	}
	wantHash(t, "noughts", hash.Sum(make([]byte, 1<<29)), "9acca8e8c22201155389f65abbf6bc9723edc7384ead80503839f49dcc56d767")
}

// Each length from 0 to 1024 has its part in this one.
func TestP21SumOfAllLengths(t *testing.T) {
	var all []byte
	for n := range 1025 {
		h := hash.Sum(counted(n))
		all = append(all, h[:]...)
	}
	wantHash(t, "all", hash.Sum(all), "519deb94c1301df549b1fc29841731b0ae12767da3cbddcd499f644ee77d4789")
}

func TestP21SumOfSums(t *testing.T) {
	var h api.Hash
	for range 1000 {
		h = hash.Sum(h[:])
	}
	wantHash(t, "the 1000th", h, "36c1cb4f826ae42ceba848227e0c5f786178ca9dceca6772e5d728d09c30a2f6")
}

func TestP21SumOfNil(t *testing.T) {
	if hash.Sum(nil) != hash.Sum([]byte{}) {
		t.Error("nil isn't as no bytes")
	}
}

// What ends a message isn't written behind it, where it has room for that.
func TestP21SumLeavesTheSpareRoom(t *testing.T) {
	room := counted(400)
	for n := range 200 {
		if hash.Sum(room[:n]) != hash.Sum(counted(n)) {
			t.Error("the room behind", n, "bytes has its part in their hash")
		}
	}
	if !bytes.Equal(room, counted(400)) {
		t.Error("what was handed in is changed")
	}
}

func TestP21Clash(t *testing.T) {
	l := [][]byte{nil, {0}, {1}, {128}, {0, 0}, []byte("a"), []byte("b"), []byte("ab"), []byte("ba"), counted(55), counted(56), counted(64), counted(128)}
	for i, a := range l {
		for j, b := range l {
			if hash.Clash(a, b) {
				t.Error("a clash of", i, j)
			}
		}
		if hash.Clash(a, bytes.Clone(a)) {
			t.Error("a clash of", i, "and a copy")
		}
	}
	if hash.Clash(nil, []byte{}) || hash.Clash([]byte{}, nil) {
		t.Error("a clash of nil and no bytes")
	}
}

func TestP21ClashLeavesTheSpareRoom(t *testing.T) {
	room := counted(100)
	if hash.Clash(room[:10], room[:20]) || hash.Clash(room[:10], room[1:11]) || !bytes.Equal(room, counted(100)) {
		t.Error("a clash, or what was handed in is changed")
	}
}
