package trail_test

import (
	"fmt"
	"math"
	"math/rand"
	"slices"
	"testing"

	"rolodex/api"
	"rolodex/trail"
)

func TestP161IsEntryWrittenOut(t *testing.T) {
	n := nodeOf
	h := plain(9)
	for _, c := range []struct {
		i, of         int
		ahead, behind []api.Hash
		h, root       api.Hash
	}{
		{0, 1, nil, nil, h[0], h[0]},
		{0, 2, nil, h[:1], h[1], n(h[1], h[0])},
		{1, 2, h[:1], nil, h[1], n(h[0], h[1])},
		{0, 3, nil, h[:2], h[2], n(n(h[2], h[0]), h[1])},
		{1, 3, h[:1], h[1:2], h[2], n(n(h[0], h[2]), h[1])},
		{2, 3, h[:1], nil, h[1], n(h[0], h[1])},
		{3, 4, h[:2], nil, h[2], n(h[0], n(h[1], h[2]))},
		{1, 5, h[:1], h[1:3], h[3], n(n(n(h[0], h[3]), h[1]), h[2])},
		{4, 5, h[:1], nil, h[1], n(h[0], h[1])},
		{4, 7, h[:1], h[1:3], h[3], n(h[0], n(n(h[3], h[1]), h[2]))},
		{5, 8, h[:2], h[2:3], h[3], n(h[0], n(n(h[1], h[3]), h[2]))},
		{1 << 30, 1<<30 + 1, h[:1], nil, h[1], n(h[0], h[1])},
		{1 << 30, 1<<30 + 2, h[:1], h[1:2], h[2], n(h[0], n(h[2], h[1]))},
	} {
		x := trail.Trail{Ahead: c.ahead, Behind: c.behind}
		name := fmt.Sprint("entry ", c.i, " of ", c.of)
		wantEntry(t, name, x, c.i, c.of, c.h, c.root, true)
		wantEntry(t, name+", another hash", x, c.i, c.of, h[8], c.root, false)
		wantEntry(t, name+", another root", x, c.i, c.of, c.h, h[8], false)
		wantEntry(t, name+", another root", x, c.i, c.of, c.h, turned(c.root), false)
	}
}

// The published paths of a well-known list of eight entries have the hashes of these trails.
func TestP161IsEntryPublished(t *testing.T) {
	known := hashesOf(
		"6e340b9cffb37a989ca544e6bb780a2c78901d3fb33738768511a30617afa01d",
		"96a296d224f285c67bee93c30f8a309157f0daa35dc5b87e410b78630a09cfc7",
		"fac54203e7cc696cf0dfcb42c92a1d9dbaf70ad9e621f4bd8d98662f00e3c125",
		"5f083f0a1a33ca076a95279832580db3e0ef4584bdff1f54c8a360f50de3031e",
		"d37ee418976dd95753c1c73862b9398fa2a2cf9b4ff0fdfe8b30cd95209614b7",
		"bc1a0643b12e4d2d7c77918f44e0f4f79a838b6cf9ec5b5c283e1f4d88599e6b",
		"ca854ea128ed050b41b35ffc1b87b8eb2bde461e9e3b5596ece6b9d5975a0ae0",
		"6b47aaf29ee3c2af9af889bc1fb9254dabd31177f16232dd6aab035ca39bf6e4",
	)
	ofThree := hashOf("aeb6bcfe274b70a14fb067a5e5578264db0fa9b51af5e0ba159158f329e06e77")
	ofFive := hashOf("4e3bbb1f7b478dcfe71fb631631519a3bca12c9aefca1612bfce4c13a86264d4")
	ofEight := hashOf("5dc9da79a70659a9ad559cb701ded9a2ab9d823aad2f4960cfe370eff4604328")
	pick := func(l ...int) []api.Hash {
		var picked []api.Hash
		for _, i := range l {
			picked = append(picked, known[i])
		}
		return picked
	}
	one, two := known[0], known[1]
	three := hashOf("0298d122906dcfc10892cb53a73992fc5b9f493ea4c9badb27b791b4127a7fe7")
	six := hashOf("4271a26be0d8a84f0bd54c8c302e7cb3a3b5d1fa6780a40bcce2873477dab658")
	for _, c := range []struct {
		i, of         int
		ahead, behind []api.Hash
		h, root       api.Hash
	}{
		{0, 1, nil, nil, one, one},
		{0, 8, nil, pick(1, 3, 7), one, ofEight},
		{5, 8, pick(4, 5), pick(6), six, ofEight},
		{2, 3, pick(2), nil, three, ofThree},
		{1, 5, pick(0), pick(3, 5), two, ofFive},
	} {
		x := trail.Trail{Ahead: c.ahead, Behind: c.behind}
		wantEntry(t, fmt.Sprint("entry ", c.i, " of ", c.of), x, c.i, c.of, c.h, c.root, true)
	}
}

// The roots were reckoned by another program.
func TestP161IsEntryOfLongLists(t *testing.T) {
	l := entries(70000)
	for _, c := range []struct {
		i, n int
		root string
	}{
		{0, 1000, "ed58fe22105717ceedf760a43eedfb173a60c44ef40fd61b6cd86bd4ebb59b61"},
		{700, 1000, "ed58fe22105717ceedf760a43eedfb173a60c44ef40fd61b6cd86bd4ebb59b61"},
		{999, 1000, "ed58fe22105717ceedf760a43eedfb173a60c44ef40fd61b6cd86bd4ebb59b61"},
		{43690, 65536, "208bed836edee10551d1a0208e22c9eead1a59c4c33abeb697eb60132f61a798"},
		{65535, 65537, "a919470e091dba7c96b77d370fdea7c7d88d58c8f35cfad49a9fa284b228b74d"},
		{65536, 65537, "a919470e091dba7c96b77d370fdea7c7d88d58c8f35cfad49a9fa284b228b74d"},
		{65535, 70000, "339ecf3ae716405fdc28cef164e45a785cade0d5bc3e1400a7a4d70d0b2dec9b"},
		{69999, 70000, "339ecf3ae716405fdc28cef164e45a785cade0d5bc3e1400a7a4d70d0b2dec9b"},
	} {
		name := fmt.Sprint("entry ", c.i, " of ", c.n)
		x, e := trail.Entry(l[:c.n], c.i)
		if e != api.OK {
			t.Fatal(name, e)
		}
		wantEntry(t, name, x, c.i, c.n, l[c.i], hashOf(c.root), true)
		wantEntry(t, name+", its neighbour's hash", x, c.i, c.n, l[c.i^1], hashOf(c.root), false)
		wantEntry(t, name+", another list's root", x, c.i, c.n, l[c.i], rootOf(l[:c.n-1]), false)
	}
}

// Whatever is changed of a right one, it is right no more.
func TestP161IsEntryChanged(t *testing.T) {
	chance := rand.New(rand.NewSource(162))
	for n := 1; n <= 34; n++ {
		for i := range n {
			x, h := anyEntry(chance, i, n), anyHashes(chance, 1)[0]
			root, _ := leadOf(x, i, n, h)
			wantEntry(t, "right", x, i, n, h, root, true)
			wantEntry(t, "another hash", x, i, n, turned(h), root, false)
			wantEntry(t, "another root", x, i, n, h, turned(root), false)
			wantEntry(t, "noughts for a hash", x, i, n, api.Hash{}, root, false)
			wantEntry(t, "noughts for a root", x, i, n, h, api.Hash{}, false)
			wantEntry(t, "the root of none", x, i, n, h, noneRoot(), false)
			for j := range x.Ahead {
				y := cloned(x)
				y.Ahead[j] = turned(y.Ahead[j])
				wantEntry(t, fmt.Sprint("another hash ahead, at ", j), y, i, n, h, root, false)
				if j > 0 {
					y = cloned(x)
					y.Ahead[j], y.Ahead[j-1] = y.Ahead[j-1], y.Ahead[j]
					wantEntry(t, fmt.Sprint("two ahead the other way, at ", j), y, i, n, h, root, false)
				}
			}
			for j := range x.Behind {
				y := cloned(x)
				y.Behind[j] = turned(y.Behind[j])
				wantEntry(t, fmt.Sprint("another hash behind, at ", j), y, i, n, h, root, false)
				if j > 0 {
					y = cloned(x)
					y.Behind[j], y.Behind[j-1] = y.Behind[j-1], y.Behind[j]
					wantEntry(t, fmt.Sprint("two behind the other way, at ", j), y, i, n, h, root, false)
				}
			}
		}
	}
}

// unformedOf answers trails with a hash more or fewer at any place, or with one on the other side.
func unformedOf(x trail.Trail) []trail.Trail {
	var l []trail.Trail
	for j := range len(x.Ahead) + 1 {
		l = append(l, trail.Trail{Ahead: slices.Insert(slices.Clone(x.Ahead), j, countedHash(9)), Behind: x.Behind})
		if j < len(x.Ahead) {
			l = append(l, trail.Trail{Ahead: slices.Delete(slices.Clone(x.Ahead), j, j+1), Behind: x.Behind})
		}
	}
	for j := range len(x.Behind) + 1 {
		l = append(l, trail.Trail{Ahead: x.Ahead, Behind: slices.Insert(slices.Clone(x.Behind), j, countedHash(9))})
		if j < len(x.Behind) {
			l = append(l, trail.Trail{Ahead: x.Ahead, Behind: slices.Delete(slices.Clone(x.Behind), j, j+1)})
		}
	}
	if last := len(x.Ahead) - 1; last >= 0 {
		l = append(l, trail.Trail{Ahead: x.Ahead[:last], Behind: slices.Insert(slices.Clone(x.Behind), 0, x.Ahead[last])})
		l = append(l, trail.Trail{Behind: slices.Concat(x.Ahead, x.Behind)})
	}
	if len(x.Behind) > 0 {
		l = append(l, trail.Trail{Ahead: append(slices.Clone(x.Ahead), x.Behind[0]), Behind: x.Behind[1:]})
		l = append(l, trail.Trail{Ahead: slices.Concat(x.Ahead, x.Behind)})
	}
	return l
}

// A hash more, or one fewer, on either side: no root makes it right, not even noughts, which stand
// beside an error.
func TestP161IsEntryUnformed(t *testing.T) {
	chance := rand.New(rand.NewSource(163))
	for n := 1; n <= 34; n++ {
		for i := range n {
			x, h := anyEntry(chance, i, n), anyHashes(chance, 1)[0]
			root, _ := leadOf(x, i, n, h)
			for j, y := range unformedOf(x) {
				for _, r := range []api.Hash{root, {}, noneRoot(), h, nodeOf(root, countedHash(9)), nodeOf(countedHash(9), root), countedHash(9)} {
					wantEntry(t, fmt.Sprint("unformed, the way ", j), y, i, n, h, r, false)
				}
			}
		}
	}
}

// The same hashes, of other numbers: they are right just where they lead to the same root there.
func TestP161IsEntryOfOtherNumbers(t *testing.T) {
	chance := rand.New(rand.NewSource(164))
	for n := 1; n <= 18; n++ {
		for i := range n {
			x, h := anyEntry(chance, i, n), anyHashes(chance, 1)[0]
			root, _ := leadOf(x, i, n, h)
			for m := -2; m <= 36; m++ {
				for j := -2; j <= 36; j++ {
					wantEntry(t, fmt.Sprint("of ", i, " and ", n), x, j, m, h, root, isEntryOf(x, j, m, h, root))
				}
			}
		}
	}
}

// Numbers that are the same but for bits above the lowest 31.
func TestP161IsEntryOfNumbersFarOff(t *testing.T) {
	chance := rand.New(rand.NewSource(165))
	for n := 1; n <= 12; n++ {
		for i := range n {
			x, h := anyEntry(chance, i, n), anyHashes(chance, 1)[0]
			root, _ := leadOf(x, i, n, h)
			for _, by := range []int{1 << 31, 1 << 32, 1 << 33, 1 << 40, math.MinInt, -1 << 31, -1 << 32, 1 << 62} {
				for _, r := range []api.Hash{root, {}, noneRoot()} {
					wantEntry(t, "both far off", x, i+by, n+by, h, r, false)
					wantEntry(t, "the place far off", x, i+by, n, h, r, false)
					wantEntry(t, "the number far off", x, i, n+by, h, r, false)
				}
			}
		}
	}
}

// Up to the last place, and not beyond it: however many hashes there are, and whatever they lead to.
func TestP161IsEntryAtTheLastPlace(t *testing.T) {
	chance := rand.New(rand.NewSource(166))
	h := countedHash(3)
	for _, n := range []int{mostTo - 2, mostTo - 1, mostTo, mostTo + 1, mostTo + 2, mostTo + 9, 1 << 32, 1<<32 + 1, 1<<32 + 9, 1 << 33, 1 << 40} {
		for _, i := range append(around(), n-3, n-2, n-1) {
			if i >= n {
				continue
			}
			x := anyEntry(chance, i, n)
			root, ok := leadOf(x, i, n, h)
			if !ok {
				t.Fatal("the test itself is wrong:", i, n)
			}
			wantEntry(t, "what leads there", x, i, n, h, root, n <= mostTo)
			wantEntry(t, "another root", x, i, n, h, turned(root), false)
			wantEntry(t, "noughts for a root", x, i, n, h, api.Hash{}, false)
		}
	}
	for _, n := range []int{0, 1, mostTo, mostTo + 1, math.MaxInt, math.MinInt} {
		for _, i := range []int{math.MaxInt, math.MaxInt - 1, mostTo, mostTo + 1, math.MinInt, -1} {
			for k := range 70 {
				x := trail.Trail{Ahead: plain(k)}
				wantEntry(t, "no such place", x, i, n, h, h, false)
				wantEntry(t, "no such place", x, i, n, h, api.Hash{}, false)
			}
		}
	}
}

// There is no entry of none, nor one at the place behind the last one.
func TestP161IsEntryOfNone(t *testing.T) {
	for _, x := range []trail.Trail{{}, {Ahead: []api.Hash{}, Behind: []api.Hash{}}, {Ahead: plain(1)}, {Behind: plain(1)}, {Ahead: plain(1), Behind: plain(1)}} {
		for _, h := range []api.Hash{{}, noneRoot(), plain(1)[0]} {
			for _, root := range []api.Hash{{}, noneRoot(), plain(1)[0], nodeOf(plain(1)[0], h), nodeOf(h, plain(1)[0])} {
				wantEntry(t, "of none", x, 0, 0, h, root, false)
				wantEntry(t, "of none", x, -1, 0, h, root, false)
				wantEntry(t, "of none", x, 1, 0, h, root, false)
				wantEntry(t, "of fewer than none", x, 0, -1, h, root, false)
				wantEntry(t, "of fewer than none", x, -1, -1, h, root, false)
				wantEntry(t, "of fewer than none", x, -2, -1, h, root, false)
				wantEntry(t, "behind the only one", x, 1, 1, h, root, false)
				wantEntry(t, "behind two", x, 2, 2, h, root, false)
				wantEntry(t, "behind the place behind the last one", x, 3, 2, h, root, false)
			}
		}
	}
	for n := range 20 {
		root := rootOf(plain(n))
		x := trail.Trail{Ahead: rangeOf(plain(n), 0, n)}
		for _, h := range append(plain(n), api.Hash{}, noneRoot()) {
			wantEntry(t, "behind the last one", x, n, n, h, root, false)
			wantEntry(t, "behind the last one", x, n, n, h, rootOf(append(plain(n), h)), false)
		}
	}
}

// Noughts are a hash like any other one, and so is the root of none.
func TestP161IsEntryOfNoughts(t *testing.T) {
	for _, h := range []api.Hash{{}, noneRoot()} {
		for n := 1; n <= 20; n++ {
			l := slices.Repeat([]api.Hash{h}, n)
			for i := range n {
				x, e := trail.Entry(l, i)
				if e != api.OK {
					t.Fatal(i, n, e)
				}
				wantEntry(t, "all the same", x, i, n, h, rootOf(l), true)
				wantEntry(t, "all the same but one", x, i, n, turned(h), rootOf(l), false)
			}
		}
	}
	for _, x := range []trail.Trail{{}, {Ahead: []api.Hash{}}, {Behind: []api.Hash{}}, {Ahead: []api.Hash{}, Behind: []api.Hash{}}} {
		wantEntry(t, "the only one", x, 0, 1, api.Hash{}, api.Hash{}, true)
		wantEntry(t, "the only one", x, 0, 1, countedHash(1), countedHash(1), true)
		wantEntry(t, "the only one", x, 0, 1, api.Hash{}, noneRoot(), false)
	}
}
