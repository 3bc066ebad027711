package chain_test

import (
	"math/rand"
	"testing"

	"rolodex/chain"
)

// A model of the chapter answers the same, of lists of which a good part are chains.
func TestP141AtRandom(t *testing.T) {
	chance := rand.New(rand.NewSource(145))
	epochs := []int{-1, 0, 1, 2, 3, 4, 5, lastEpoch, 1 << 31}
	chains := 0
	for range 40000 {
		label := counted(1 + chance.Intn(3))
		if chance.Intn(20) == 0 {
			label = counted([]int{0, 32, 33}[chance.Intn(3)])
		}
		var l []chain.Version
		for i := range chance.Intn(4) {
			v := chain.Version{Number: i + 1, Epoch: i + 1 + chance.Intn(2), Salt: anyHash(chance), Value: anyBytes(chance, 0, 2)}
			if chance.Intn(12) == 0 {
				v.Epoch = epochs[chance.Intn(len(epochs))]
			}
			if chance.Intn(30) == 0 {
				v.Value = counted(63 + chance.Intn(3))
			}
			l = append(l, v)
		}
		l = linked(label, l)
		if len(l) > 0 && chance.Intn(4) == 0 {
			l = change(chance, l)
		}
		if isChain(label, l) {
			chains++
		}
		wantAsModel(t, chance, label, l, epochs[chance.Intn(len(epochs))])
	}
	if chains < 10000 {
		t.Error("the test itself is wrong: chains:", chains)
	}
}

// wantAsModel holds all calls to what the model answers.
func wantAsModel(t *testing.T, chance *rand.Rand, label []byte, l []chain.Version, epoch int) {
	t.Helper()
	is := isChain(label, l)
	if chain.Formed(label, l) != is {
		t.Fatalf("Formed of %q and %v isn't %v", label, l, is)
	}
	if len(l) > 0 {
		c := commitmentOf(label, lastOf(l))
		if chance.Intn(4) == 0 {
			c = commitmentOf(label, l[chance.Intn(len(l))])
		}
		if chain.Check(label, l, c) != (is && c == commitmentOf(label, lastOf(l))) {
			t.Fatalf("Check of %q, %v and %x", label, l, c)
		}
	}
	seed, value := anyHash(chance), anyBytes(chance, 0, mostValue+1)
	x, e := chain.Grow(seed, label, l, epoch, value)
	if want, wantE := grownOf(seed, label, l, epoch, value); e != wantE || !same(x, want) {
		t.Fatalf("Grow of %q and %v by %d and %x: %v, %v", label, l, epoch, value, x, e)
	}
	if x := chain.Upto(l, epoch); !same(x, l[:uptoOf(l, epoch)]) {
		t.Fatalf("%v up to %d: %v", l, epoch, x)
	}
}
