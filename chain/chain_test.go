package chain_test

import (
	"bytes"
	"fmt"
	"math"
	"slices"
	"strings"
	"testing"

	"rolodex/api"
	"rolodex/chain"
	"rolodex/hash"
)

func TestP141Examples(t *testing.T) {
	l, e := chain.Grow(api.Hash{}, []byte("alice"), nil, 5, []byte{7})
	if e != api.OK || len(l) != 1 || l[0].Number != 1 {
		t.Error("Grow of no chain:", l, e)
	}
}

// The hashes were reckoned by another program.
func TestP141Key(t *testing.T) {
	for _, c := range []struct {
		label []byte
		want  string
	}{
		{[]byte("alice"), "2742bebf807872eace9ae4ada468041fc6189e5bb4f3aeca1d07fd725f68dda1"},
		{[]byte("bob"), "4d385c3664317c09f3772734a9b70f0f7a81a0a6f9cb840cc4749bcf67c11d22"},
		{[]byte("a"), "57987ff5b682bb4c69502fc37bd7ed2124f824ef3325c27220b463b18e92ea5a"},
		{[]byte{0}, "2e574a4b36c249bf5453e0fb2b461a0cd2cc602d6619d17889a3fbec9c721827"},
		{counted(32), "4a12f6609bc625cde58ecb0d045646aa0e2662fb7b0fbe50339b1fac8c50ee47"},
		{nil, "c2b59ac411e96df47bd89ffc1b39afa3aa39179a26e1212236a4e274639826b9"},
		{[]byte{}, "c2b59ac411e96df47bd89ffc1b39afa3aa39179a26e1212236a4e274639826b9"},
		{counted(33), "4414efae7baa7cc83cf7e6117432c87f3ffdf2580f981a4bb7e66179b940606f"},
		{counted(1000), "6687c0cad540b9e75163db422db3284e7d8344199bb63db65dbe6fbdbdcd3e51"},
	} {
		if h := chain.Key(c.label); h != hashOf(c.want) {
			t.Errorf("the key of %q: %x", c.label, h)
		}
	}
}

func TestP141Salt(t *testing.T) {
	for _, c := range []struct {
		seed   api.Hash
		label  []byte
		number int
		want   string
	}{
		{aliceSeed(), []byte("alice"), 1, "99a2034de8058324334c43a5e82740979f324639a6d59e6506e48583d437ff18"},
		{aliceSeed(), []byte("alice"), 2, "ea12b8ce37a3852d90f8ef920b5331873c436ce3e9271110666327196d67e45b"},
		{api.Hash{}, []byte("alice"), 1, "e5aa1a80847241a9225639b7d53765ada9358a68495ed09408fedd87ec98c561"},
		{aliceSeed(), nil, 1, "b73c8bff40821b4ddba28001c94707a41e422c1fd3dd88095dc5f5f2e1360055"},
		{aliceSeed(), counted(33), 1, "8c217a4ba661b495d094fe883d21ffcfd6dac5c351f753574e734085a8983c25"},
		{aliceSeed(), []byte("alice"), 0x01020304, "41500d6642dfc259103051fc7781a8596e1cd8cca27c8b3800bc82e7d257080b"},
		{aliceSeed(), []byte("alice"), 0, "4c8a416213e46ca9d6f4b17861d9dad491760486fb442381b99288ef20c9d69b"},
		{aliceSeed(), []byte("alice"), 1 << 31, "fb70adeed7c60e59b81f82139205ee177c822d3c88c76d8ce97fa69f53aac8ee"},
		{aliceSeed(), []byte("alice"), -1 << 31, "fb70adeed7c60e59b81f82139205ee177c822d3c88c76d8ce97fa69f53aac8ee"},
		{aliceSeed(), []byte("alice"), -1, "ec54856d9a4984c5aa000aefc07885acafb25f694e6b5ebde6f56247bb1fcc7f"},
		{aliceSeed(), []byte("alice"), 1<<32 - 1, "ec54856d9a4984c5aa000aefc07885acafb25f694e6b5ebde6f56247bb1fcc7f"},
		{aliceSeed(), []byte("alice"), 1<<32 + 1, "99a2034de8058324334c43a5e82740979f324639a6d59e6506e48583d437ff18"},
		{aliceSeed(), []byte("alice"), math.MinInt + 1, "99a2034de8058324334c43a5e82740979f324639a6d59e6506e48583d437ff18"},
	} {
		if h := chain.Salt(c.seed, c.label, c.number); h != hashOf(c.want) {
			t.Errorf("the salt of %x, %q and %d: %x", c.seed[:2], c.label, c.number, h)
		}
	}
}

// Byte for byte.
func TestP141Text(t *testing.T) {
	salt, before := strings.Repeat("s", 32), strings.Repeat("b", 32)
	v := chain.Version{
		Number: 0x01020304, Epoch: 0x0a0b0c0d, Value: []byte("value"),
		Salt: api.Hash([]byte(salt)), Before: api.Hash([]byte(before)),
	}
	want := "c\x00\x00\x00\x05alice" +
		"\x00\x00\x00\x04\x01\x02\x03\x04" +
		"\x00\x00\x00\x04\x0a\x0b\x0c\x0d" +
		"\x00\x00\x00\x20" + salt +
		"\x00\x00\x00\x20" + before +
		"\x00\x00\x00\x05value"
	if b := chain.Text([]byte("alice"), v); string(b) != want {
		t.Errorf("%q", b)
	}
	want = "c\x00\x00\x00\x00" +
		"\x00\x00\x00\x04\x00\x00\x00\x00" +
		"\x00\x00\x00\x04\x00\x00\x00\x00" +
		"\x00\x00\x00\x20" + strings.Repeat("\x00", 32) +
		"\x00\x00\x00\x20" + strings.Repeat("\x00", 32) +
		"\x00\x00\x00\x00"
	if b := chain.Text(nil, chain.Version{}); string(b) != want {
		t.Errorf("of nothing: %q", b)
	}
	if b := chain.Text([]byte{}, chain.Version{Value: []byte{}}); string(b) != want {
		t.Errorf("of no bytes: %q", b)
	}
}

// Numbers and epochs count modulo 2^32, whatever they are.
func TestP141TextOfNumbers(t *testing.T) {
	for _, c := range []struct {
		number int
		want   string
	}{
		{0, "\x00\x00\x00\x00"}, {1, "\x00\x00\x00\x01"}, {255, "\x00\x00\x00\xff"}, {256, "\x00\x00\x01\x00"},
		{65536, "\x00\x01\x00\x00"}, {1 << 24, "\x01\x00\x00\x00"}, {lastEpoch, "\x7f\xff\xff\xff"},
		{1 << 31, "\x80\x00\x00\x00"}, {1<<32 - 1, "\xff\xff\xff\xff"}, {1 << 32, "\x00\x00\x00\x00"},
		{1<<40 + 5, "\x00\x00\x00\x05"}, {-1, "\xff\xff\xff\xff"}, {-2, "\xff\xff\xff\xfe"},
		{-1 << 31, "\x80\x00\x00\x00"}, {math.MaxInt, "\xff\xff\xff\xff"}, {math.MinInt, "\x00\x00\x00\x00"},
	} {
		b := chain.Text([]byte("a"), chain.Version{Number: c.number, Epoch: 9})
		if string(b[10:14]) != c.want || string(b[18:22]) != "\x00\x00\x00\x09" {
			t.Errorf("of the number %d: %q", c.number, b)
		}
		b = chain.Text([]byte("a"), chain.Version{Number: 9, Epoch: c.number})
		if string(b[10:14]) != "\x00\x00\x00\x09" || string(b[18:22]) != c.want {
			t.Errorf("of the epoch %d: %q", c.number, b)
		}
	}
}

func TestP141Commit(t *testing.T) {
	salt, before := countedHash(0), countedHash(100)
	for _, c := range []struct {
		label []byte
		v     chain.Version
		want  string
	}{
		{[]byte("alice"), chain.Version{1, 1, salt, api.Hash{}, []byte("k")}, "2869fadb33df10eefd629a68b357c383f306739776c9ce2b7727c712d6b934ea"},
		{[]byte("alice"), chain.Version{2, 300, salt, before, nil}, "e0bec793172337564784a2c4dc37e43bc1e1f9b02adf16185b325281a5297eab"},
		{[]byte("alice"), chain.Version{2, 300, salt, before, []byte{}}, "e0bec793172337564784a2c4dc37e43bc1e1f9b02adf16185b325281a5297eab"},
		{[]byte("alice"), chain.Version{1<<32 + 2, 1<<33 + 300, salt, before, nil}, "e0bec793172337564784a2c4dc37e43bc1e1f9b02adf16185b325281a5297eab"},
		{[]byte("alice"), chain.Version{0x01020304, lastEpoch, salt, before, counted(64)}, "727eb72fb92ab6d5da00b690ce8da5b7ac6082afa50d046f1677d9144606c49a"},
		{[]byte("alice"), chain.Version{-1, -2, salt, before, []byte("k")}, "6434b17fb2342af5a7063ed17a9f781dbae9998fbd1d9a407faf9d751a27356b"},
		{nil, chain.Version{}, "06cb90d418b922c3e863335fb671a3f1a00cc22463a1d6da2c140730d80fc568"},
		{counted(33), chain.Version{1, 1, salt, before, counted(65)}, "e23e31ed71890fd55cf125c9657e3b064c7e63e710030e84f98d36b06cb1228d"},
	} {
		if h := chain.Commit(c.label, c.v); h != hashOf(c.want) {
			t.Errorf("of %q and %v: %x", c.label, c.v, h)
		}
		if hash.Sum(chain.Text(c.label, c.v)) != hashOf(c.want) {
			t.Errorf("of %q and %v another text", c.label, c.v)
		}
	}
}

// Each version of the chain that another program reckoned grows from those ahead of it.
func TestP141GrowOfAlice(t *testing.T) {
	var l []chain.Version
	for i, v := range alice() {
		x, e := chain.Grow(aliceSeed(), []byte("alice"), l, v.Epoch, v.Value)
		if e != api.OK || !same(x, alice()[:i+1]) || len(l) != i {
			t.Fatal(i, x, e)
		}
		l = x
	}
	wantNoGrow(t, "no epoch is above the last one", []byte("alice"), l, lastEpoch, nil)
}

func TestP141FormedOfAlice(t *testing.T) {
	for n := range 5 {
		wantFormed(t, fmt.Sprint("the first ", n), []byte("alice"), alice()[:n], n > 0)
		if n > 0 {
			wantFormed(t, fmt.Sprint("behind the first ", n), []byte("alice"), alice()[n:], false)
		}
	}
	for i := range 4 {
		wantFormed(t, fmt.Sprint("without the one at ", i), []byte("alice"), slices.Delete(alice(), i, i+1), i == 3)
		wantFormed(t, fmt.Sprint("with the one twice at ", i), []byte("alice"), slices.Insert(alice(), i, alice()[i]), false)
	}
	for _, label := range []string{"", "alic", "alicf", "Alice", "alice\x00", "lice"} {
		wantFormed(t, "of "+label, []byte(label), alice()[:1], label != "")
		wantFormed(t, "of "+label, []byte(label), alice(), false)
	}
}

// Each byte of what makes a version counts, in each version that has one behind it: it isn't what
// that one says. In the last one it counts for the commitment.
func TestP141ChangedAnywhere(t *testing.T) {
	label := []byte("alice")
	c := aliceCommitments()[3]
	for i := range 4 {
		for at := range 32 {
			l := alice()
			l[i].Salt[at] ^= 1 << (at % 8)
			wantFormed(t, fmt.Sprint("another salt at ", i, at), label, l, i == 3)
			if chain.Check(label, l, c) {
				t.Error("Check of another salt at", i, at)
			}
			l = alice()
			l[i].Before[at] ^= 1 << (at % 8)
			wantFormed(t, fmt.Sprint("another commitment ahead at ", i, at), label, l, false)
			if chain.Check(label, l, c) {
				t.Error("Check of another commitment ahead at", i, at)
			}
		}
		for _, value := range [][]byte{nil, {0}, {1}, []byte("ona"), []byte("on"), []byte("one\x00"), counted(63), counted(64)} {
			l := alice()
			l[i].Value = value
			was := bytes.Equal(value, alice()[i].Value)
			wantFormed(t, fmt.Sprintf("the value %q at %d", value, i), label, l, was || i == 3)
			if chain.Check(label, l, c) != was {
				t.Errorf("Check of the value %q at %d", value, i)
			}
		}
	}
}

func TestP141Labels(t *testing.T) {
	for n := range 70 {
		label := counted(n)
		is := n >= 1 && n <= 32
		wantFormed(t, fmt.Sprint("one version, a label of bytes: ", n), label, ofEpochs(label, 1), is)
		wantFormed(t, fmt.Sprint("three versions, a label of bytes: ", n), label, ofEpochs(label, 1, 2, 3), is)
		x, e := chain.Grow(aliceSeed(), label, nil, 1, nil)
		if (e == api.OK) != is || (e == api.ErrArg) == is || (len(x) == 1) != is {
			t.Error("Grow of no chain, a label of bytes:", n, x, e)
		}
		wantFormed(t, fmt.Sprint("no version, a label of bytes: ", n), label, nil, false)
	}
	long := counted(100000)
	wantFormed(t, "a long label", long, ofEpochs(long, 1), false)
	wantNoGrow(t, "a long label", long, nil, 1, nil)
	wantFormed(t, "a nil label", nil, ofEpochs(nil, 1), false)
	wantNoGrow(t, "a nil label", nil, nil, 1, nil)
	for _, label := range []string{"\x00", strings.Repeat("\xff", 32), "é", "a b\n"} {
		wantFormed(t, label, []byte(label), ofEpochs([]byte(label), 1, 5), true)
	}
}

func TestP141Values(t *testing.T) {
	label := []byte("alice")
	for _, n := range []int{0, 1, 2, 32, 33, 63, 64, 65, 66, 128, 256, 320, 65536, 65600, 100000} {
		for i := range 3 {
			l := ofEpochs(label, 1, 2, 3)
			l[i].Value = counted(n)
			wantFormed(t, fmt.Sprint("a value of bytes at ", i, ": ", n), label, linked(label, l), n <= 64)
		}
		for i := range 3 {
			l := ofEpochs(label, 1, 2, 3)[:i]
			x, e := chain.Grow(aliceSeed(), label, l, 9, counted(n))
			if want, wantE := grownOf(aliceSeed(), label, l, 9, counted(n)); e != wantE || !same(x, want) {
				t.Error("Grow by a value of", n, "bytes of", i, "versions:", x, e)
			}
		}
	}
	l := ofEpochs(label, 1, 2)
	l[0].Value, l[1].Value = []byte{}, nil
	wantFormed(t, "a value without bytes", label, linked(label, l), true)
}

// Of all other numbers the commitments are as they should be, those of numbers modulo 2^32 even
// as if these were right.
func TestP141Numbers(t *testing.T) {
	label := []byte("alice")
	for n := 1; n <= 3; n++ {
		for i := range n {
			for _, number := range []int{0, 1, 2, 3, 4, -1, -2, 257, 258, 65537, i + 1 + 1<<32, i + 1 - 1<<32, i + 1 + 1<<40, math.MaxInt, math.MinInt} {
				l := ofEpochs(label, 5, 6, 7)[:n]
				l[i].Number = number
				wantFormed(t, fmt.Sprint("the number ", number, " at ", i, " of ", n), label, linked(label, l), number == i+1)
			}
		}
	}
	for _, first := range []int{0, 2, -1, 1 << 32} {
		l := ofEpochs(label, 5, 6, 7)
		for i := range l {
			l[i].Number = first + i
		}
		wantFormed(t, fmt.Sprint("numbers from ", first), label, linked(label, l), false)
	}
}

func TestP141Epochs(t *testing.T) {
	label := []byte("alice")
	for _, epoch := range []int{1, 2, 255, 256, 65536, lastEpoch - 1, lastEpoch} {
		wantFormed(t, fmt.Sprint("the epoch ", epoch), label, ofEpochs(label, epoch), true)
	}
	for _, epoch := range []int{0, -1, -5, 1 << 31, 1<<31 + 1, 1<<32 - 1, 1 << 32, 1<<32 + 1, math.MaxInt, math.MinInt, -1 << 31} {
		wantFormed(t, fmt.Sprint("the epoch ", epoch), label, ofEpochs(label, epoch), false)
		wantFormed(t, fmt.Sprint("the last epoch ", epoch), label, ofEpochs(label, 1, 2, epoch), false)
		wantFormed(t, fmt.Sprint("the first epoch ", epoch), label, ofEpochs(label, epoch, 2, 3), false)
		wantFormed(t, fmt.Sprint("the middle epoch ", epoch), label, ofEpochs(label, 1, epoch, 3), false)
	}
	for a := -1; a <= 5; a++ {
		for b := -1; b <= 5; b++ {
			for c := -1; c <= 5; c++ {
				is := 0 < a && a < b && b < c
				wantFormed(t, fmt.Sprint("the epochs ", a, b, c), label, ofEpochs(label, a, b, c), is)
			}
		}
	}
	wantFormed(t, "the last epochs", label, ofEpochs(label, 1, lastEpoch-1, lastEpoch), true)
	wantFormed(t, "above the last epoch", label, ofEpochs(label, lastEpoch-1, lastEpoch, lastEpoch+1), false)
	wantFormed(t, "round the words", label, ofEpochs(label, 1<<32+1, 1<<32+2), false)
	wantFormed(t, "a turn of the words further", label, ofEpochs(label, 2, 1<<32+1), false)
}

// The commitments ahead are right, but not those of this chain's.
func TestP141Before(t *testing.T) {
	label := []byte("alice")
	good := ofEpochs(label, 1, 2, 3, 4)
	hashes := []api.Hash{{}, {31: 1}, commitmentOf(label, good[3]), commitmentOf([]byte("bob"), good[0]), chain.Key(label)}
	for i := range 3 {
		hashes = append(hashes, commitmentOf(label, good[i]), hash.Tagged(107, textOf(label, good[i])))
	}
	for i := range 4 {
		for j, h := range hashes {
			l := cloned(good)
			l[i].Before = h
			for k := i + 1; k < 4; k++ {
				l[k].Before = commitmentOf(label, l[k-1])
			}
			wantFormed(t, fmt.Sprint("the commitment ", j, " ahead of the one at ", i), label, l, h == good[i].Before)
		}
	}
	for i := range 3 {
		l := cloned(good)
		l[i].Before, l[i+1].Before = l[i+1].Before, l[i].Before
		wantFormed(t, fmt.Sprint("two commitments the other way at ", i), label, l, false)
	}
}

func TestP141NoChain(t *testing.T) {
	for _, l := range [][]chain.Version{nil, {}, alice()[:0]} {
		wantFormed(t, "no versions", []byte("alice"), l, false)
		for _, h := range append(aliceCommitments(), api.Hash{}, countedHash(3)) {
			if chain.Check([]byte("alice"), l, h) || chain.Check(nil, l, h) {
				t.Error("Check of no versions")
			}
		}
		if x := chain.Upto(l, lastEpoch); len(x) != 0 {
			t.Error("Upto of no versions:", x)
		}
	}
	wantFormed(t, "a zero version", []byte("alice"), make([]chain.Version, 1), false)
	wantFormed(t, "zero versions", nil, make([]chain.Version, 3), false)
}

// Numbers take two bytes, and three.
func TestP141LongChains(t *testing.T) {
	label := []byte("alice")
	var epochs []int
	for i := range 66000 {
		epochs = append(epochs, 3*i+1)
	}
	l := ofEpochs(label, epochs...)
	wantFormed(t, "66000 versions", label, l, true)
	x, e := chain.Grow(aliceSeed(), label, l, 200000, []byte("x"))
	if want, _ := grownOf(aliceSeed(), label, l, 200000, []byte("x")); e != api.OK || !same(x, want) {
		t.Error("Grow of them:", len(x), e)
	}
	for _, i := range []int{0, 1, 255, 256, 30000, 65535, 65536, 65998} {
		m := slices.Clone(l)
		m[i].Salt[9] ^= 4
		wantFormed(t, fmt.Sprint("another salt at ", i), label, m, false)
		m[i] = l[i]
		m[i].Number += 1 << 32
		wantFormed(t, fmt.Sprint("another number at ", i), label, m, false)
	}
	if x := chain.Upto(l, 150000); len(x) != 50000 || !same(x, l[:50000]) {
		t.Error("Upto:", len(x))
	}
}

// No beginning, no other label and no other hash is right, and a right hash makes no chain.
func TestP141Check(t *testing.T) {
	label := []byte("alice")
	for n := 1; n <= 4; n++ {
		for i, h := range aliceCommitments() {
			if chain.Check(label, alice()[:n], h) != (i == n-1) {
				t.Error("the first", n, "by the commitment of the one at", i)
			}
			if chain.Check([]byte("bob"), alice()[:n], h) || chain.Check(nil, alice()[:n], h) {
				t.Error("the first", n, "of another label")
			}
		}
		for at := range 256 {
			h := aliceCommitments()[n-1]
			h[at/8] ^= 1 << (at % 8)
			if chain.Check(label, alice()[:n], h) {
				t.Error("the first", n, "by a commitment with another bit at", at)
			}
		}
		if chain.Check(label, alice()[:n], api.Hash{}) {
			t.Error("the first", n, "by noughts")
		}
	}
	for i := range 3 {
		if chain.Check(label, alice()[i+1:], aliceCommitments()[3]) {
			t.Error("what lacks the first", i+1)
		}
	}
}

func TestP141GrowOfWhatMayNotBe(t *testing.T) {
	label := []byte("alice")
	for _, epoch := range []int{0, -1, 1 << 31, 1<<31 + 1, 1 << 32, 1<<32 + 1, math.MaxInt, math.MinInt, -1 << 31, 1 - 1<<32} {
		wantNoGrow(t, fmt.Sprint("no chain, the epoch ", epoch), label, nil, epoch, nil)
		wantNoGrow(t, fmt.Sprint("a chain, the epoch ", epoch), label, alice()[:1], epoch, nil)
	}
	for n := 1; n <= 4; n++ {
		last := alice()[n-1].Epoch
		for _, epoch := range []int{1, last - 1, last, lastEpoch + 1} {
			wantNoGrow(t, fmt.Sprint("the first ", n, ", the epoch ", epoch), label, alice()[:n], epoch, nil)
		}
		if n > 1 { // one version alone tells of no label
			wantNoGrow(t, fmt.Sprint("the first ", n, ", another label"), []byte("bob"), alice()[:n], lastEpoch, nil)
		}
		wantNoGrow(t, fmt.Sprint("the first ", n, ", no label"), nil, alice()[:n], lastEpoch, nil)
		wantNoGrow(t, fmt.Sprint("the first ", n, ", no value"), label, alice()[:n], lastEpoch, counted(65))
		wantNoGrow(t, fmt.Sprint("without the first ", n), label, append(alice()[n:], chain.Version{}), lastEpoch, nil)
	}
	for n := range 4 {
		for _, epoch := range []int{1, 2, 3, 299, 300, 301, lastEpoch - 1, lastEpoch} {
			x, e := chain.Grow(aliceSeed(), label, alice()[:n], epoch, counted(64))
			if want, wantE := grownOf(aliceSeed(), label, alice()[:n], epoch, counted(64)); e != wantE || !same(x, want) {
				t.Error("Grow of the first", n, "by the epoch", epoch, ":", x, e)
			}
		}
	}
}

// The salts of a chain need not be those of a seed, nor of the one that it grows by.
func TestP141GrowBySeeds(t *testing.T) {
	label := []byte("alice")
	for _, seed := range []api.Hash{{}, {0: 1}, {31: 1}, countedHash(200)} {
		for n := range 4 {
			x, e := chain.Grow(seed, label, alice()[:n], lastEpoch, []byte("v"))
			if e != api.OK || len(x) != n+1 || !same(x[:n], alice()[:n]) || x[n].Salt != saltOf(seed, label, n+1) {
				t.Error(n, x, e)
			}
		}
	}
}

// Upto asks for the epochs alone, of whatever list.
func TestP141Upto(t *testing.T) {
	for _, c := range []struct {
		epochs []int
		epoch  int
		want   int
	}{
		{nil, 5, 0}, {[]int{1}, 0, 0}, {[]int{1}, 1, 1}, {[]int{1}, -1, 0}, {[]int{1}, lastEpoch, 1},
		{[]int{1, 3, 5}, 0, 0}, {[]int{1, 3, 5}, 1, 1}, {[]int{1, 3, 5}, 2, 1}, {[]int{1, 3, 5}, 3, 2},
		{[]int{1, 3, 5}, 4, 2}, {[]int{1, 3, 5}, 5, 3}, {[]int{1, 3, 5}, 6, 3}, {[]int{1, 3, 5}, math.MaxInt, 3},
		{[]int{1, 3, 5}, math.MinInt, 0}, {[]int{3, 1, 2}, 2, 0}, {[]int{1, 5, 2, 3}, 3, 1}, {[]int{1, 5, 2}, 5, 3},
		{[]int{2, 2, 2}, 2, 3}, {[]int{2, 2, 2}, 1, 0}, {[]int{0, -3, 7}, 0, 2}, {[]int{-5, -4, -3}, -4, 2},
		{[]int{1 << 40, 1}, 1<<40 - 1, 0}, {[]int{1, 1 << 32}, 1, 1}, {[]int{1, 1 << 32}, 1 << 32, 2},
		{[]int{lastEpoch}, lastEpoch, 1}, {[]int{lastEpoch}, lastEpoch - 1, 0}, {[]int{math.MinInt}, math.MinInt, 1},
		{[]int{math.MaxInt}, math.MaxInt, 1}, {[]int{math.MaxInt}, math.MinInt, 0},
	} {
		l := ofEpochs([]byte("alice"), c.epochs...)
		if x := chain.Upto(l, c.epoch); len(x) != c.want || !same(x, l[:c.want]) {
			t.Error("up to", c.epoch, "of", c.epochs, ":", x)
		}
		if !same(l, ofEpochs([]byte("alice"), c.epochs...)) {
			t.Error("what was handed in is changed")
		}
	}
	for n := range 5 {
		for _, epoch := range []int{0, 1, 2, 3, 299, 300, 301, lastEpoch - 1, lastEpoch, lastEpoch + 1} {
			l := alice()[:n]
			if x := chain.Upto(l, epoch); !same(x, l[:uptoOf(l, epoch)]) {
				t.Error("up to", epoch, "of the first", n, ":", x)
			}
		}
	}
}

// Nothing that Upto is handed need be a chain, and numbers, hashes and values come as they are.
func TestP141UptoOfNoChain(t *testing.T) {
	l := []chain.Version{
		{Number: -7, Epoch: 3, Salt: countedHash(1), Before: countedHash(2), Value: counted(1000)},
		{Number: 1 << 40, Epoch: 2, Before: countedHash(4)},
		{Epoch: 4, Value: []byte{1}},
	}
	if x := chain.Upto(l, 3); len(x) != 2 || !same(x, l[:2]) {
		t.Error(x)
	}
}
