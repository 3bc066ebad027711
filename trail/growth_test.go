package trail_test

import (
	"fmt"
	"math"
	"math/rand"
	"slices"
	"testing"

	"rolodex/api"
	"rolodex/trail"
)

func TestP161IsGrowthWrittenOut(t *testing.T) {
	n := nodeOf
	h := plain(9)
	for _, c := range []struct {
		m, of         int
		ahead, behind []api.Hash
		old, root     api.Hash
	}{
		{0, 0, nil, nil, noneRoot(), noneRoot()},
		{0, 1, nil, h[:1], noneRoot(), h[0]},
		{1, 1, h[:1], nil, h[0], h[0]},
		{0, 2, nil, h[:1], noneRoot(), h[0]},
		{1, 2, h[:1], h[1:2], h[0], n(h[0], h[1])},
		{2, 2, h[:1], nil, h[0], h[0]},
		{0, 3, nil, h[:2], noneRoot(), n(h[0], h[1])},
		{1, 3, h[:1], h[1:3], h[0], n(n(h[0], h[1]), h[2])},
		{2, 3, h[:1], h[1:2], h[0], n(h[0], h[1])},
		{3, 3, h[:2], nil, n(h[0], h[1]), n(h[0], h[1])},
		{3, 4, h[:2], h[2:3], n(h[0], h[1]), n(h[0], n(h[1], h[2]))},
		{3, 5, h[:2], h[2:4], n(h[0], h[1]), n(n(h[0], n(h[1], h[2])), h[3])},
		{5, 8, h[:2], h[2:4], n(h[0], h[1]), n(h[0], n(n(h[1], h[2]), h[3]))},
		{7, 7, h[:3], nil, n(h[0], n(h[1], h[2])), n(h[0], n(h[1], h[2]))},
		{7, 9, h[:3], h[3:5], n(h[0], n(h[1], h[2])), n(n(h[0], n(h[1], n(h[2], h[3]))), h[4])},
		{1 << 30, 1<<30 + 2, h[:1], h[1:2], h[0], n(h[0], h[1])},
		{0, 1 << 30, nil, h[:1], noneRoot(), h[0]},
	} {
		x := trail.Trail{Ahead: c.ahead, Behind: c.behind}
		name := fmt.Sprint("the first ", c.m, " of ", c.of)
		wantGrowth(t, name, x, c.m, c.of, c.old, c.root, true)
		wantGrowth(t, name+", another elder root", x, c.m, c.of, h[8], c.root, false)
		wantGrowth(t, name+", another root", x, c.m, c.of, c.old, h[8], false)
		wantGrowth(t, name+", both roots others", x, c.m, c.of, h[8], h[8], false)
		wantGrowth(t, name+", the roots the other way", x, c.m, c.of, c.root, c.old, c.root == c.old)
	}
}

// The published proofs of a well-known list of eight entries have the hashes of these trails.
func TestP161IsGrowthPublished(t *testing.T) {
	ofOne := hashOf("6e340b9cffb37a989ca544e6bb780a2c78901d3fb33738768511a30617afa01d")
	ofTwo := hashOf("fac54203e7cc696cf0dfcb42c92a1d9dbaf70ad9e621f4bd8d98662f00e3c125")
	ofFour := hashOf("d37ee418976dd95753c1c73862b9398fa2a2cf9b4ff0fdfe8b30cd95209614b7")
	ofFive := hashOf("4e3bbb1f7b478dcfe71fb631631519a3bca12c9aefca1612bfce4c13a86264d4")
	ofSix := hashOf("76e67dadbcdf1e10e1b74ddc608abd2f98dfb16fbce75277b5232a127f2087ef")
	ofEight := hashOf("5dc9da79a70659a9ad559cb701ded9a2ab9d823aad2f4960cfe370eff4604328")
	for _, c := range []struct {
		m, of         int
		ahead, behind []api.Hash
		old, root     api.Hash
	}{
		{1, 1, []api.Hash{ofOne}, nil, ofOne, ofOne},
		{1, 8, []api.Hash{ofOne}, hashesOf(
			"96a296d224f285c67bee93c30f8a309157f0daa35dc5b87e410b78630a09cfc7",
			"5f083f0a1a33ca076a95279832580db3e0ef4584bdff1f54c8a360f50de3031e",
			"6b47aaf29ee3c2af9af889bc1fb9254dabd31177f16232dd6aab035ca39bf6e4",
		), ofOne, ofEight},
		{6, 8, []api.Hash{ofFour, hashOf("0ebc5d3437fbe2db158b9f126a1d118e308181031d0a949f8dededebc558ef6a")}, hashesOf(
			"ca854ea128ed050b41b35ffc1b87b8eb2bde461e9e3b5596ece6b9d5975a0ae0",
		), ofSix, ofEight},
		{2, 5, []api.Hash{ofTwo}, hashesOf(
			"5f083f0a1a33ca076a95279832580db3e0ef4584bdff1f54c8a360f50de3031e",
			"bc1a0643b12e4d2d7c77918f44e0f4f79a838b6cf9ec5b5c283e1f4d88599e6b",
		), ofTwo, ofFive},
	} {
		x := trail.Trail{Ahead: c.ahead, Behind: c.behind}
		wantGrowth(t, fmt.Sprint("the first ", c.m, " of ", c.of), x, c.m, c.of, c.old, c.root, true)
	}
}

// The roots were reckoned by another program.
func TestP161IsGrowthOfLongLists(t *testing.T) {
	l := entries(70000)
	root := hashOf("339ecf3ae716405fdc28cef164e45a785cade0d5bc3e1400a7a4d70d0b2dec9b")
	for _, c := range []struct {
		m   int
		old string
	}{
		{0, "e3b0c44298fc1c149afbf4c8996fb92427ae41e4649b934ca495991b7852b855"},
		{1, "8855508aade16ec573d21e6a485dfd0a7624085c1a14b5ecdd6485de0c6839a4"},
		{1000, "ed58fe22105717ceedf760a43eedfb173a60c44ef40fd61b6cd86bd4ebb59b61"},
		{21845, "fd93947191b2750d52ca80f75d46201a22bb6affc8cf34523e1961a69f2857db"},
		{65535, "d9cb0b3f33adcd25419aa844d52b3c686c71d034c3908926f5aeebfffdc3f614"},
		{65536, "208bed836edee10551d1a0208e22c9eead1a59c4c33abeb697eb60132f61a798"},
		{69999, "07f2324e71f268f112d24a1145a2801b9059b2007d41b64b5d644cf5c7e7c326"},
		{70000, "339ecf3ae716405fdc28cef164e45a785cade0d5bc3e1400a7a4d70d0b2dec9b"},
	} {
		name := fmt.Sprint("the first ", c.m)
		x, e := trail.Growth(l, c.m)
		if e != api.OK {
			t.Fatal(name, e)
		}
		old := hashOf(c.old)
		wantGrowth(t, name, x, c.m, 70000, old, root, true)
		wantGrowth(t, name+", another elder root", x, c.m, 70000, turned(old), root, false)
		wantGrowth(t, name+", another root", x, c.m, 70000, old, turned(root), false)
	}
}

// Whatever is changed of a right one, it is right no more. A hash ahead is held by both roots: it is
// refused by each of them alone too.
func TestP161IsGrowthChanged(t *testing.T) {
	chance := rand.New(rand.NewSource(167))
	for n := range 35 {
		for m := range n + 1 {
			x := anyGrowth(chance, m, n)
			old, root, _ := leadsOf(x, m, n)
			wantGrowth(t, "right", x, m, n, old, root, true)
			wantGrowth(t, "another elder root", x, m, n, turned(old), root, false)
			wantGrowth(t, "another root", x, m, n, old, turned(root), false)
			wantGrowth(t, "noughts for the elder root", x, m, n, api.Hash{}, root, false)
			wantGrowth(t, "noughts for the root", x, m, n, old, api.Hash{}, false)
			wantGrowth(t, "noughts for both", x, m, n, api.Hash{}, api.Hash{}, false)
			wantGrowth(t, "the root of none for the elder one", x, m, n, noneRoot(), root, m == 0)
			wantGrowth(t, "the root of none", x, m, n, old, noneRoot(), n == 0)
			wantGrowth(t, "the roots the other way", x, m, n, root, old, m == n)
			wantGrowth(t, "the root twice", x, m, n, root, root, m == n)
			wantGrowth(t, "the elder root twice", x, m, n, old, old, m == n)
			for j := range x.Ahead {
				y := cloned(x)
				y.Ahead[j] = turned(y.Ahead[j])
				wantGrowth(t, fmt.Sprint("another hash ahead, at ", j), y, m, n, old, root, false)
				elder, lead, _ := leadsOf(y, m, n)
				wantGrowth(t, "another hash ahead, by which the root is made", y, m, n, old, lead, false)
				wantGrowth(t, "another hash ahead, by which the elder root is made", y, m, n, elder, root, false)
				wantGrowth(t, "another hash ahead, by which both are made", y, m, n, elder, lead, true)
			}
			for j := range x.Behind {
				y := cloned(x)
				y.Behind[j] = turned(y.Behind[j])
				wantGrowth(t, fmt.Sprint("another hash behind, at ", j), y, m, n, old, root, false)
				if j > 0 {
					y = cloned(x)
					y.Behind[j], y.Behind[j-1] = y.Behind[j-1], y.Behind[j]
					wantGrowth(t, fmt.Sprint("two behind the other way, at ", j), y, m, n, old, root, false)
				}
			}
		}
	}
}

// A hash more, or one fewer, on either side: no roots make it right, not even noughts, which stand
// beside an error.
func TestP161IsGrowthUnformed(t *testing.T) {
	chance := rand.New(rand.NewSource(168))
	for n := range 35 {
		for m := range n + 1 {
			x := anyGrowth(chance, m, n)
			old, root, _ := leadsOf(x, m, n)
			for j, y := range unformedOf(x) {
				name := fmt.Sprint("unformed, the way ", j)
				for _, o := range []api.Hash{old, {}, noneRoot(), nodeOf(old, countedHash(9)), countedHash(9)} {
					for _, r := range []api.Hash{root, {}, noneRoot(), old, nodeOf(root, countedHash(9)), nodeOf(old, countedHash(9)), countedHash(9)} {
						wantGrowth(t, name, y, m, n, o, r, false)
					}
				}
			}
		}
	}
}

// The same hashes, of other numbers: they are right just where they lead to the same roots there.
func TestP161IsGrowthOfOtherNumbers(t *testing.T) {
	chance := rand.New(rand.NewSource(169))
	for n := range 18 {
		for m := range n + 1 {
			x := anyGrowth(chance, m, n)
			old, root, _ := leadsOf(x, m, n)
			for of := -2; of <= 36; of++ {
				for first := -2; first <= 36; first++ {
					wantGrowth(t, fmt.Sprint("of ", m, " and ", n), x, first, of, old, root, isGrowthOf(x, first, of, old, root))
				}
			}
		}
	}
}

// Numbers that are the same but for bits above the lowest 31.
func TestP161IsGrowthOfNumbersFarOff(t *testing.T) {
	chance := rand.New(rand.NewSource(170))
	for n := range 13 {
		for m := range n + 1 {
			x := anyGrowth(chance, m, n)
			old, root, _ := leadsOf(x, m, n)
			for _, by := range []int{1 << 31, 1 << 32, 1 << 33, 1 << 40, math.MinInt, -1 << 31, -1 << 32, 1 << 62} {
				for _, r := range []api.Hash{root, {}, noneRoot()} {
					for _, o := range []api.Hash{old, {}, noneRoot()} {
						wantGrowth(t, "both far off", x, m+by, n+by, o, r, false)
						wantGrowth(t, "the first ones far off", x, m+by, n, o, r, false)
						wantGrowth(t, "the number far off", x, m, n+by, o, r, false)
					}
				}
			}
		}
	}
}

// Up to the last place, and not beyond it: however many hashes there are, and whatever they lead to.
func TestP161IsGrowthAtTheLastPlace(t *testing.T) {
	chance := rand.New(rand.NewSource(171))
	for _, n := range []int{mostTo - 2, mostTo - 1, mostTo, mostTo + 1, mostTo + 2, mostTo + 9, 1 << 32, 1<<32 + 1, 1<<32 + 9, 1 << 33, 1 << 40} {
		for _, m := range append(around(), n-3, n-2, n-1, n) {
			if m > n {
				continue
			}
			x := anyGrowth(chance, m, n)
			old, root, ok := leadsOf(x, m, n)
			if !ok {
				t.Fatal("the test itself is wrong:", m, n)
			}
			wantGrowth(t, "what leads there", x, m, n, old, root, n <= mostTo)
			wantGrowth(t, "another elder root", x, m, n, turned(old), root, false)
			wantGrowth(t, "another root", x, m, n, old, turned(root), false)
			wantGrowth(t, "noughts for the root", x, m, n, old, api.Hash{}, false)
			wantGrowth(t, "noughts for both roots", x, m, n, api.Hash{}, api.Hash{}, false)
		}
	}
	for _, n := range []int{0, 1, mostTo, mostTo + 1, math.MaxInt, math.MinInt, -1} {
		for _, m := range []int{math.MaxInt, math.MaxInt - 1, mostTo + 1, mostTo + 2, math.MinInt, -1} {
			for k := range 70 {
				for _, h := range []api.Hash{plain(1)[0], {}, noneRoot()} {
					wantGrowth(t, "no such number", trail.Trail{Ahead: plain(k)}, m, n, h, h, false)
					wantGrowth(t, "no such number", trail.Trail{Behind: plain(k)}, m, n, h, h, false)
				}
			}
		}
	}
}

// From none on, to none, and from all on: what stands there is a range of no hashes.
func TestP161IsGrowthOfNone(t *testing.T) {
	for _, x := range []trail.Trail{{}, {Ahead: []api.Hash{}}, {Behind: []api.Hash{}}, {Ahead: []api.Hash{}, Behind: []api.Hash{}}} {
		wantGrowth(t, "none of none", x, 0, 0, noneRoot(), noneRoot(), true)
		wantGrowth(t, "none of none", x, 0, 0, api.Hash{}, noneRoot(), false)
		wantGrowth(t, "none of none", x, 0, 0, noneRoot(), api.Hash{}, false)
		wantGrowth(t, "none of none", x, 0, 0, api.Hash{}, api.Hash{}, false)
		for _, p := range [][2]int{{0, 1}, {1, 1}, {-1, 0}, {-1, -1}, {0, -1}, {1, 0}, {5, 5}, {0, 8}, {-2, -1}, {math.MinInt, math.MinInt}} {
			for _, h := range []api.Hash{{}, noneRoot()} {
				wantGrowth(t, "nothing", x, p[0], p[1], h, h, false)
				wantGrowth(t, "nothing", x, p[0], p[1], noneRoot(), h, false)
			}
		}
	}
	for n := range 40 {
		l := plain(n)
		hashes, root := rangeOf(l, 0, n), rootOf(l)
		for _, none := range [][]api.Hash{nil, {}} {
			wantGrowth(t, "from none on", trail.Trail{Ahead: none, Behind: hashes}, 0, n, noneRoot(), root, true)
			wantGrowth(t, "from none on, another elder root", trail.Trail{Ahead: none, Behind: hashes}, 0, n, root, root, n == 0)
			wantGrowth(t, "from all on", trail.Trail{Ahead: hashes, Behind: none}, n, n, root, root, true)
			wantGrowth(t, "from all on, another elder root", trail.Trail{Ahead: hashes, Behind: none}, n, n, noneRoot(), root, n == 0)
			wantGrowth(t, "from all on, another root", trail.Trail{Ahead: hashes, Behind: none}, n, n, root, turned(root), false)
		}
	}
}

// Noughts are a hash like any other one, and so is the root of none.
func TestP161IsGrowthOfNoughts(t *testing.T) {
	for _, h := range []api.Hash{{}, noneRoot()} {
		for n := range 20 {
			l := slices.Repeat([]api.Hash{h}, n)
			for m := range n + 1 {
				x, e := trail.Growth(l, m)
				if e != api.OK {
					t.Fatal(m, n, e)
				}
				wantGrowth(t, "all the same", x, m, n, rootOf(l[:m]), rootOf(l), true)
				wantGrowth(t, "all the same, another elder root", x, m, n, turned(rootOf(l[:m])), rootOf(l), false)
			}
		}
	}
	wantGrowth(t, "noughts alone", trail.Trail{Ahead: make([]api.Hash, 1)}, 1, 1, api.Hash{}, api.Hash{}, true)
	wantGrowth(t, "noughts alone", trail.Trail{Behind: make([]api.Hash, 1)}, 0, 1, noneRoot(), api.Hash{}, true)
	wantGrowth(t, "noughts alone", trail.Trail{Behind: make([]api.Hash, 1)}, 0, 1, api.Hash{}, api.Hash{}, false)
}
