package frontier_test

import (
	"fmt"
	"math"
	"slices"
	"testing"

	"rolodex/api"
	"rolodex/frontier"
	"rolodex/hash"
)

func TestP151Examples(t *testing.T) {
	if l := frontier.Segments(3, 10); !slices.Equal(l, []int{1, 4, 2}) {
		t.Error("Segments(3, 10):", l)
	}
}

// The hashes were reckoned by another program.
func TestP151Leaf(t *testing.T) {
	for _, c := range []struct {
		entry []byte
		want  string
	}{
		{nil, "6e340b9cffb37a989ca544e6bb780a2c78901d3fb33738768511a30617afa01d"},
		{[]byte{}, "6e340b9cffb37a989ca544e6bb780a2c78901d3fb33738768511a30617afa01d"},
		{[]byte{0}, "96a296d224f285c67bee93c30f8a309157f0daa35dc5b87e410b78630a09cfc7"},
		{[]byte{1}, "b413f47d13ee2fe6c845b2ee141af81de858df4ec549a58b7970bb96645bc8d2"},
		{[]byte("abc"), "609f6e36d2405585188d5cfd761f407c7cc46a7d3f314c88270469dde315fcd1"},
		{counted(54), "66e78c94beb028a07211b62d4dae7fe1b607afc6e088fb6ecb69375d79b3abd1"},
		{counted(55), "5c57828c6496b5bebee064ab94381ff360d9f79677927bdde280566bcc9b78bc"},
		{counted(62), "920b0a9c8996756478aac13f10f5b1402d90475c0878bec68421f58ab03108aa"},
		{counted(63), "0235748259260cdb6ac04bf08be334c2ce812c1546adb85379836f96d3c694f9"},
		{counted(64), "e4fb1329f08b46df92906ff0be9b7ab12c44eabd3eb8651e69edb27bd8a19e95"},
		{counted(65), "d28a2f2f9d3fe854748e5e50b756b20768086e150e000e1b1da217ba48f80b55"},
		{counted(1000), "34b0b8f3b21fde0beb7b6fe915cd36fd1c5eab1526f0dbdadaf6c3ba077e9458"},
	} {
		if h := frontier.Leaf(c.entry); h != hashOf(c.want) {
			t.Errorf("the hash of an entry of %d bytes: %x", len(c.entry), h)
		}
	}
	for n := range 300 {
		if frontier.Leaf(counted(n)) != hash.Sum(append([]byte{0}, counted(n)...)) {
			t.Error("the hash of an entry of bytes:", n)
		}
	}
}

func TestP151Node(t *testing.T) {
	for _, c := range []struct {
		a, b api.Hash
		want string
	}{
		{api.Hash{}, api.Hash{}, "ae0798d0ecaed2b778eddebf18f071a561c53658c05e76cedecc27cafbdbc577"},
		{countedHash(0), countedHash(100), "c8d7e03bdf888b239bd5ade3c08ba92f6bfd22fa9f8c9de7e2bd156c138ad775"},
		{countedHash(100), countedHash(0), "34549756eea1e13a91bee02994324be5e6f9e8f6b732b5cd6d5bf4e529a27a4b"},
	} {
		h := frontier.Node(c.a, c.b)
		if h != hashOf(c.want) {
			t.Errorf("the hash of %x and %x: %x", c.a[:2], c.b[:2], h)
		}
		if h == frontier.Leaf(slices.Concat(c.a[:], c.b[:])) || h == frontier.Leaf(slices.Concat([]byte{1}, c.a[:], c.b[:])) {
			t.Error("two hashes' hash is an entry's")
		}
	}
	for i := range 32 {
		var a, b api.Hash
		a[i], b[31-i] = 1, 255
		if frontier.Node(a, b) != nodeOf(a, b) || frontier.Node(b, a) != nodeOf(b, a) {
			t.Error("the hash of two hashes, at", i)
		}
	}
}

// rising answers the powers of two from a on, b last.
func rising(a, b int) []int {
	var l []int
	for size := a; size <= b; size = 2 * size {
		l = append(l, size)
	}
	return l
}

// falling answers the powers of two from a on, b last.
func falling(a, b int) []int {
	l := rising(b, a)
	slices.Reverse(l)
	return l
}

func TestP151SegmentsWrittenOut(t *testing.T) {
	for _, c := range []struct {
		from, to int
		want     []int
	}{
		{0, 0, nil}, {0, 1, []int{1}}, {0, 2, []int{2}}, {0, 3, []int{2, 1}}, {0, 4, []int{4}},
		{0, 5, []int{4, 1}}, {0, 6, []int{4, 2}}, {0, 7, []int{4, 2, 1}}, {0, 8, []int{8}}, {0, 13, []int{8, 4, 1}},
		{1, 1, nil}, {1, 2, []int{1}}, {1, 3, []int{1, 1}}, {1, 4, []int{1, 2}}, {1, 5, []int{1, 2, 1}},
		{1, 6, []int{1, 2, 2}}, {1, 7, []int{1, 2, 2, 1}}, {1, 8, []int{1, 2, 4}}, {1, 9, []int{1, 2, 4, 1}},
		{2, 3, []int{1}}, {2, 4, []int{2}}, {2, 6, []int{2, 2}}, {2, 7, []int{2, 2, 1}}, {3, 5, []int{1, 1}},
		{3, 10, []int{1, 4, 2}}, {4, 8, []int{4}}, {4, 12, []int{4, 4}}, {4, 16, []int{4, 8}}, {5, 64, []int{1, 2, 8, 16, 32}},
		{6, 7, []int{1}}, {6, 9, []int{2, 1}}, {7, 9, []int{1, 1}}, {1000, 3000, []int{8, 16, 1024, 512, 256, 128, 32, 16, 8}},
		{0, 1 << 16, []int{1 << 16}}, {0, 1 << 30, []int{1 << 30}}, {0, mostTo, falling(1<<30, 1)},
		{1, 1 << 30, rising(1, 1<<29)}, {1, mostTo, append(rising(1, 1<<29), falling(1<<29, 1)...)},
		{1 << 30, mostTo, falling(1<<29, 1)}, {1<<30 - 1, 1<<30 + 1, []int{1, 1}}, {3, 1<<30 + 3, append([]int{1, 4}, append(rising(8, 1<<29), 2, 1)...)},
		{mostTo - 1, mostTo, []int{1}}, {mostTo - 2, mostTo, []int{1, 1}}, {mostTo - 3, mostTo, []int{2, 1}},
		{mostTo, mostTo, nil}, {1 << 30, 1 << 30, nil}, {5, 5, nil},
	} {
		wantSegments(t, c.from, c.to, c.want)
	}
}

func TestP151SegmentsOfSmallNumbers(t *testing.T) {
	for from := -3; from <= 200; from++ {
		for to := -3; to <= 300; to++ {
			wantSegments(t, from, to, segmentsOf(from, to))
		}
	}
}

// around answers numbers from 0 to the last one that may be which powers of two aren't far from.
func around() []int {
	var l []int
	for size := 1; size <= 1<<31; size = 2 * size {
		for _, n := range []int{size - 3, size - 2, size - 1, size, size + 1, size + 2, size + size/2} {
			if n >= 0 && n <= mostTo && !slices.Contains(l, n) {
				l = append(l, n)
			}
		}
	}
	return l
}

func TestP151SegmentsAroundPowersOfTwo(t *testing.T) {
	for _, from := range around() {
		for _, to := range around() {
			wantSegments(t, from, to, segmentsOf(from, to))
		}
	}
}

// wrong answers pairs of numbers that are no range's.
func wrong() [][2]int {
	return [][2]int{
		{-1, 0}, {-1, -1}, {-1, 1}, {-1, 5}, {-2, -1}, {0, -1}, {1, 0}, {2, 1}, {5, 4}, {10, 3}, {8, 0}, {mostTo, mostTo - 1}, {mostTo, 0},
		{0, 1 << 31}, {1, 1 << 31}, {1 << 31, 1 << 31}, {mostTo, 1 << 31}, {1<<31 + 1, 1<<31 + 2}, {1 << 31, 0}, {0, 1<<31 + 5},
		{1 << 32, 1<<32 + 1}, {0, 1 << 32}, {0, 1<<32 + 8}, {1 << 32, 1 << 32}, {1 << 32, 8}, {1<<32 + 3, 1<<32 + 10}, {1<<32 + 3, 10},
		{-1 << 31, 0}, {-1 << 32, 0}, {-1 << 32, 8}, {3 - 1<<32, 10}, {3, 10 - 1<<32}, {0, 1 << 40}, {-1 << 40, 1 << 40},
		{math.MinInt, 0}, {math.MinInt, math.MinInt}, {math.MinInt, math.MaxInt}, {math.MaxInt, math.MinInt},
		{0, math.MaxInt}, {math.MaxInt, math.MaxInt}, {math.MaxInt, 0}, {0, math.MinInt}, {math.MaxInt - 1, math.MaxInt}, {math.MinInt, mostTo},
	}
}

// What is no range's has no segments, is never formed, is joined with nothing and has no root:
// however many hashes it has.
func TestP151OfNoRange(t *testing.T) {
	for _, w := range wrong() {
		wantSegments(t, w[0], w[1], nil)
		for _, l := range [][]api.Hash{nil, {}, plain(1), plain(2), plain(3), plain(7), plain(60)} {
			r := frontier.Range{From: w[0], To: w[1], Hashes: l}
			name := fmt.Sprint("from ", w[0], " to ", w[1], ", hashes: ", len(l))
			if frontier.Formed(r) {
				t.Error(name, ": formed")
			}
			wantNoRoot(t, name, r)
			wantNoJoin(t, name, r, r)
			wantNoJoin(t, name+", behind nothing", frontier.Range{From: w[0], To: w[0]}, r)
			wantNoJoin(t, name+", ahead of nothing", r, frontier.Range{From: w[1], To: w[1]})
		}
	}
}

func TestP151FormedByHashes(t *testing.T) {
	var l [][2]int
	for from := range 30 {
		for to := from; to < 60; to++ {
			l = append(l, [2]int{from, to})
		}
	}
	for _, from := range around() {
		l = append(l, [2]int{from, mostTo}, [2]int{0, from}, [2]int{from / 2, from})
	}
	for _, p := range l {
		n := len(segmentsOf(p[0], p[1]))
		for m := range n + 4 {
			r := frontier.Range{From: p[0], To: p[1], Hashes: plain(m)}
			if frontier.Formed(r) != (m == n) {
				t.Error("from", p[0], "to", p[1], "hashes:", m)
			}
			if m != n {
				wantNoRoot(t, fmt.Sprint("from ", p[0], " to ", p[1], ", hashes: ", m), r)
			}
		}
		if n == 0 && !frontier.Formed(frontier.Range{From: p[0], To: p[1], Hashes: []api.Hash{}}) {
			t.Error("from", p[0], "to", p[1], "no hashes: not formed")
		}
	}
	if frontier.Formed(frontier.Range{From: 0, To: 8, Hashes: plain(8)}) || frontier.Formed(frontier.Range{From: 0, To: 7, Hashes: plain(1)}) {
		t.Error("formed by places, or as if it were whole")
	}
}
