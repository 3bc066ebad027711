package frontier_test

import (
	"fmt"
	"math"
	"slices"
	"testing"

	"rolodex/api"
	"rolodex/frontier"
	"rolodex/hash"
)

// The hashes were reckoned by another program.
func TestP151OfWrittenOut(t *testing.T) {
	l := entries(3000)
	for _, c := range []struct {
		from, to int
		want     []api.Hash
	}{
		{3, 10, hashesOf(
			"016a682d1df4f869b32c48b0a9b442a1493949fb85d951d121c1143bd3d5c1af",
			"0b62dc24f87a1bf1b7d84ae62a6b4761ee2203362d49c1f09d54089c7b41c3cb",
			"1e8d68528b2857a73daad3bfb8b8645a85a068efdc3f364799a033f7bd899352",
		)},
		{0, 13, hashesOf(
			"de1179c92dc98db5358961ded727f4b71474a71aa3e4053cf9e266d24cfb754a",
			"4bc15ea98a12c673bcc531ea01d9a50a70c43b1e89aac394a7fac216031c672b",
			"422b2ef64d5445069b0e3aa3e0d533b0b76f1cdea4c3482ad2fb58be0f2839a3",
		)},
		{5, 64, hashesOf(
			"42a5578600f1b0902c599a39268c12bdb1e820fd9a82212db588a71ae74cb6e4",
			"97b6f26916d742a672be21b41d5ae23e7ab679fd74625806d6c924649acd35e2",
			"95caabcc1889b338740c2bd7983875e1b33a778882793a9b620e2b06264e7d4b",
			"639baf568974c2407a7420274a5cc223d8351a7d8780e44fdc2060fbe4f22918",
			"57980692e2f26162de6dc30224c3415c6896a8e422ec0bab76b260be947cc1b4",
		)},
		{7, 8, l[7:8]},
		{7, 9, l[7:9]},
		{6, 8, []api.Hash{nodeOf(l[6], l[7])}},
	} {
		r, e := frontier.Of(c.from, l[c.from:c.to])
		wantRange(t, fmt.Sprint("from ", c.from, " to ", c.to), r, e, frontier.Range{From: c.from, To: c.to, Hashes: c.want})
	}
	r, e := frontier.Of(1000, l[1000:])
	var all []byte
	for _, h := range r.Hashes {
		all = append(all, h[:]...)
	}
	if e != api.OK || hash.Sum(all) != hashOf("dbb8a40fe5664ef8faf990e4bd39b50ddd85b862ec51aa6db5ccdb59d1bf66cc") {
		t.Error("from 1000 to 3000:", r, e)
	}
}

func TestP151OfSmallLists(t *testing.T) {
	l := plain(200)
	for from := range 70 {
		for n := range 130 {
			r, e := frontier.Of(from, l[:n])
			wantRange(t, fmt.Sprint("from ", from, ", hashes: ", n), r, e, rangeOf(from, l[:n]))
		}
	}
	for _, from := range around() {
		for _, n := range []int{0, 1, 2, 3, 4, 5, 8, 9, 100} {
			if from > mostTo-n {
				continue
			}
			r, e := frontier.Of(from, l[:n])
			wantRange(t, fmt.Sprint("from ", from, ", hashes: ", n), r, e, rangeOf(from, l[:n]))
		}
	}
}

// Hashes that are the same stand at places of their own.
func TestP151OfSameHashes(t *testing.T) {
	for n := range 70 {
		for from := range 9 {
			l := slices.Repeat([]api.Hash{countedHash(7)}, n)
			r, e := frontier.Of(from, l)
			wantRange(t, fmt.Sprint("the same, from ", from, ", hashes: ", n), r, e, rangeOf(from, l))
			l = make([]api.Hash, n)
			r, e = frontier.Of(from, l)
			wantRange(t, fmt.Sprint("noughts, from ", from, ", hashes: ", n), r, e, rangeOf(from, l))
		}
	}
}

// What is below 0 or goes beyond the last place is refused; what ends there isn't.
func TestP151OfPlacesAtTheEnds(t *testing.T) {
	for n := range 20 {
		l := plain(n)
		r, e := frontier.Of(mostTo-n, l)
		wantRange(t, fmt.Sprint("up to the last place, hashes: ", n), r, e, rangeOf(mostTo-n, l))
		r, e = frontier.Of(0, l)
		wantRange(t, fmt.Sprint("from the first place, hashes: ", n), r, e, rangeOf(0, l))
		for _, from := range []int{
			-1, -2, -n - 1, -1 << 31, -1 << 32, math.MinInt, math.MinInt + 1, mostTo - n + 1, mostTo + 1, mostTo + 2,
			1 << 32, 1<<32 + 5, 1<<32 - n, math.MaxInt - n, math.MaxInt - 1, math.MaxInt,
		} {
			if r, e := frontier.Of(from, l); e != api.ErrArg || !isZero(r) {
				t.Error("from", from, "hashes:", n, r, e)
			}
		}
	}
	for _, l := range [][]api.Hash{nil, {}} {
		r, e := frontier.Of(mostTo, l)
		wantRange(t, "nothing at the last place", r, e, frontier.Range{From: mostTo, To: mostTo})
		r, e = frontier.Of(0, l)
		wantRange(t, "nothing", r, e, frontier.Range{})
		r, e = frontier.Of(6, l)
		wantRange(t, "nothing at 6", r, e, frontier.Range{From: 6, To: 6})
	}
}

// The published roots of eight entries.
func TestP151RootWrittenOut(t *testing.T) {
	texts := []string{"", "\x00", "\x10", " !", "01", "@ABC", "PQRSTUVW", "`abcdefghijklmno"}
	want := hashesOf(
		"e3b0c44298fc1c149afbf4c8996fb92427ae41e4649b934ca495991b7852b855",
		"6e340b9cffb37a989ca544e6bb780a2c78901d3fb33738768511a30617afa01d",
		"fac54203e7cc696cf0dfcb42c92a1d9dbaf70ad9e621f4bd8d98662f00e3c125",
		"aeb6bcfe274b70a14fb067a5e5578264db0fa9b51af5e0ba159158f329e06e77",
		"d37ee418976dd95753c1c73862b9398fa2a2cf9b4ff0fdfe8b30cd95209614b7",
		"4e3bbb1f7b478dcfe71fb631631519a3bca12c9aefca1612bfce4c13a86264d4",
		"76e67dadbcdf1e10e1b74ddc608abd2f98dfb16fbce75277b5232a127f2087ef",
		"ddb89be403809e325750d3d263cd78929c2942b7942a34b77e122c9594a74c8c",
		"5dc9da79a70659a9ad559cb701ded9a2ab9d823aad2f4960cfe370eff4604328",
	)
	var l []api.Hash
	for n := range 9 {
		r, e := frontier.Of(0, l)
		wantRange(t, fmt.Sprint("of ", n), r, e, rangeOf(0, l))
		wantRoot(t, fmt.Sprint("of ", n), r, want[n])
		if n < 8 {
			l = append(l, frontier.Leaf([]byte(texts[n])))
		}
	}
}

func TestP151RootOfMany(t *testing.T) {
	l := entries(70000)
	for _, c := range []struct {
		n    int
		want string
	}{
		{1, "8855508aade16ec573d21e6a485dfd0a7624085c1a14b5ecdd6485de0c6839a4"},
		{2, "50746ee02c3fda32e421ddc1bbf3f20b50ce18738d48709cb6d0ad13f2bdabb7"},
		{3, "e4b0b8adadc95bb54949a5993c44797855d5acc2f863aab6435b74799e4c3484"},
		{5, "efb01591aed96c37c3d8ea64ffbf685f000db88652fdfbaece8d54f3bdc1ee36"},
		{7, "d62b43d7342d2e73a4a8910565cffb0dd6c07f65f9b8647417ad8d5c86bed8d8"},
		{13, "422d634c508507e68ab894b896e17abf4b1aca1fc81d2cd201e82b5221aa49c3"},
		{100, "740488a3c43c052bfb21dd92199095914175ef355679e09a446f569db63e3f5b"},
		{1000, "ed58fe22105717ceedf760a43eedfb173a60c44ef40fd61b6cd86bd4ebb59b61"},
		{4096, "6375e7fa97dceef1c99b70092e25c3d0c7678f7240ab4d73f434704fd08a7889"},
		{65535, "d9cb0b3f33adcd25419aa844d52b3c686c71d034c3908926f5aeebfffdc3f614"},
		{65536, "208bed836edee10551d1a0208e22c9eead1a59c4c33abeb697eb60132f61a798"},
		{65537, "a919470e091dba7c96b77d370fdea7c7d88d58c8f35cfad49a9fa284b228b74d"},
		{70000, "339ecf3ae716405fdc28cef164e45a785cade0d5bc3e1400a7a4d70d0b2dec9b"},
	} {
		r, e := frontier.Of(0, l[:c.n])
		wantRange(t, fmt.Sprint("of ", c.n), r, e, rangeOf(0, l[:c.n]))
		wantRoot(t, fmt.Sprint("of ", c.n), r, hashOf(c.want))
	}
}

// A root asks for hashes alone, not for a list that has them.
func TestP151RootOfAnyHashes(t *testing.T) {
	for _, to := range around() {
		r := frontier.Range{To: to, Hashes: plain(len(segmentsOf(0, to)))}
		want, e := wholeOf(r)
		if e != api.OK {
			t.Fatal("the test itself is wrong:", to)
		}
		wantRoot(t, fmt.Sprint("up to ", to), r, want)
	}
	for _, l := range [][]api.Hash{nil, {}} {
		wantRoot(t, "of none", frontier.Range{Hashes: l}, hashOf("e3b0c44298fc1c149afbf4c8996fb92427ae41e4649b934ca495991b7852b855"))
	}
	wantRoot(t, "of noughts", frontier.Range{To: 1, Hashes: make([]api.Hash, 1)}, api.Hash{})
}

// The list begins at 0, or it has no root: nor has nothing that stands elsewhere.
func TestP151RootFromElsewhere(t *testing.T) {
	for _, from := range around() {
		if from == 0 {
			continue
		}
		for _, to := range []int{from, from + 1, from + 2, 2 * from, mostTo} {
			if to <= mostTo {
				wantNoRoot(t, fmt.Sprint("from ", from, " to ", to), frontier.Range{From: from, To: to, Hashes: plain(len(segmentsOf(from, to)))})
			}
		}
	}
}
