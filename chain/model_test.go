package chain_test

import (
	"bytes"
	"encoding/hex"
	"slices"
	"testing"

	"rolodex/api"
	"rolodex/chain"
	"rolodex/hash"
)

const (
	lastEpoch = 1<<31 - 1
	mostLabel = 32
	mostValue = 64
)

func hashOf(digits string) api.Hash {
	b, e := hex.DecodeString(digits)
	if e != nil {
		panic(e)
	}
	return api.Hash(b)
}

// counted answers n bytes that go from 0 to 250 again and again.
func counted(n int) []byte {
	b := make([]byte, n)
	for i := range b {
		b[i] = byte(i % 251)
	}
	return b
}

// countedHash has 32 bytes that rise from the first one on.
func countedHash(first byte) api.Hash {
	var h api.Hash
	for i := range h {
		h[i] = first + byte(i)
	}
	return h
}

// aliceSeed is the seed by which another program reckoned the salts that stand in these tests.
func aliceSeed() api.Hash { return countedHash(1) }

// alice is a chain whose hashes were reckoned by another program.
func alice() []chain.Version {
	return []chain.Version{
		{
			Number: 1, Epoch: 1, Value: []byte("one"),
			Salt: hashOf("99a2034de8058324334c43a5e82740979f324639a6d59e6506e48583d437ff18"),
		},
		{
			Number: 2, Epoch: 2,
			Salt:   hashOf("ea12b8ce37a3852d90f8ef920b5331873c436ce3e9271110666327196d67e45b"),
			Before: hashOf("6378948e486e44a476e9382ce9aa2500a9d0b3e3bb4af6c293979d0d9f13e955"),
		},
		{
			Number: 3, Epoch: 300, Value: counted(64),
			Salt:   hashOf("2c55e144c1f42f45c121daefa979386d74056835c7f30da0833d2243cc0cb997"),
			Before: hashOf("b00e5ff98981318a3f5ea5084800ab690c5f3ef71e0bd4fafc1f44b0fa7cd7e6"),
		},
		{
			Number: 4, Epoch: lastEpoch, Value: []byte{0},
			Salt:   hashOf("4f2abb2b0f98239d0837c36de9d0d64dcdc1a81988d9cb2ff75cd7c798a811c6"),
			Before: hashOf("3ab5ae592127723492d754651651051c08215bba66004d8806c5e5fdc194d2d8"),
		},
	}
}

// aliceCommitments are of each of alice's versions.
func aliceCommitments() []api.Hash {
	l := alice()
	return []api.Hash{
		l[1].Before,
		l[2].Before,
		l[3].Before,
		hashOf("a32c8a603e1f1eac8b260b85da695321843d6e5c467eb3364b0080aefaff0675"),
	}
}

func four(n int) []byte {
	return []byte{byte(n >> 24), byte(n >> 16), byte(n >> 8), byte(n)}
}

// part answers b behind its number of bytes.
func part(b []byte) []byte {
	return append(four(len(b)), b...)
}

// textOf has the bytes as the chapter has them.
func textOf(label []byte, v chain.Version) []byte {
	return slices.Concat([]byte{99}, part(label), part(four(v.Number)), part(four(v.Epoch)),
		part(v.Salt[:]), part(v.Before[:]), part(v.Value))
}

func commitmentOf(label []byte, v chain.Version) api.Hash {
	return hash.Sum(textOf(label, v))
}

func saltOf(seed api.Hash, label []byte, number int) api.Hash {
	return hash.Sum(slices.Concat([]byte{122}, part(seed[:]), part(label), part(four(number))))
}

func lastOf(l []chain.Version) chain.Version {
	return l[len(l)-1]
}

// isChain asks all that the chapter says of a chain, from its first version on.
func isChain(label []byte, l []chain.Version) bool {
	if len(label) < 1 || len(label) > mostLabel || len(l) < 1 {
		return false
	}
	var before api.Hash
	epoch := 0
	for i, v := range l {
		if v.Number != i+1 || v.Epoch <= epoch || v.Epoch > lastEpoch || v.Before != before || len(v.Value) > mostValue {
			return false
		}
		before, epoch = commitmentOf(label, v), v.Epoch
	}
	return true
}

// grownOf answers what Grow should answer.
func grownOf(seed api.Hash, label []byte, l []chain.Version, epoch int, value []byte) ([]chain.Version, api.Errno) {
	if len(label) < 1 || len(label) > mostLabel || len(l) > 0 && !isChain(label, l) {
		return nil, api.ErrArg
	}
	if len(value) > mostValue || epoch < 1 || epoch > lastEpoch || len(l) > 0 && epoch <= lastOf(l).Epoch {
		return nil, api.ErrArg
	}
	number := len(l) + 1
	v := chain.Version{Number: number, Epoch: epoch, Salt: saltOf(seed, label, number), Value: value}
	if len(l) > 0 {
		v.Before = commitmentOf(label, lastOf(l))
	}
	return append(cloned(l), v), api.OK
}

// uptoOf answers how many versions Upto should answer.
func uptoOf(l []chain.Version, epoch int) int {
	if n := slices.IndexFunc(l, func(v chain.Version) bool { return v.Epoch > epoch }); n >= 0 {
		return n
	}
	return len(l)
}

// cloned answers a copy that shares nothing.
func cloned(l []chain.Version) []chain.Version {
	var own []chain.Version
	for _, v := range l {
		v.Value = bytes.Clone(v.Value)
		own = append(own, v)
	}
	return own
}

// linked answers a copy in which each version has the commitment of the one ahead, and the first
// one noughts: whatever else may not be in it, this may be.
func linked(label []byte, l []chain.Version) []chain.Version {
	own := cloned(l)
	var before api.Hash
	for i := range own {
		own[i].Before = before
		before = commitmentOf(label, own[i])
	}
	return own
}

// ofEpochs answers a chain of so many versions as there are epochs, if these may be.
func ofEpochs(label []byte, epochs ...int) []chain.Version {
	var l []chain.Version
	for i, e := range epochs {
		l = append(l, chain.Version{Number: i + 1, Epoch: e, Salt: countedHash(byte(i)), Value: []byte{byte(e)}})
	}
	return linked(label, l)
}

func sameVersion(a, b chain.Version) bool {
	values := bytes.Equal(a.Value, b.Value)
	return a.Number == b.Number && a.Epoch == b.Epoch && a.Salt == b.Salt && a.Before == b.Before && values
}

func same(a, b []chain.Version) bool {
	return slices.EqualFunc(a, b, sameVersion)
}

// wantFormed holds Formed, Check and Grow to whether l is a chain of the label: the commitment and
// whatever else is asked for is right.
func wantFormed(t *testing.T, name string, label []byte, l []chain.Version, want bool) {
	t.Helper()
	var c api.Hash
	epoch := 1
	if len(l) > 0 {
		c = commitmentOf(label, lastOf(l))
		epoch = max(1, lastOf(l).Epoch+1)
	}
	if isChain(label, l) != want {
		t.Fatal(name, ": the test itself is wrong")
	}
	if chain.Formed(label, l) != want {
		t.Error(name, ": Formed isn't", want)
	}
	if chain.Check(label, l, c) != want {
		t.Error(name, ": Check isn't", want)
	}
	if len(l) == 0 || epoch > lastEpoch {
		return
	}
	x, e := chain.Grow(aliceSeed(), label, l, epoch, nil)
	if (e == api.OK) != want || (e == api.ErrArg) == want || (len(x) == len(l)+1) != want || (len(x) == 0) == want {
		t.Error(name, ": Grow of it answers", len(x), "versions and", e)
	}
}

// wantNoGrow holds a Grow to its error, with nothing beside it.
func wantNoGrow(t *testing.T, name string, label []byte, l []chain.Version, epoch int, value []byte) {
	t.Helper()
	if x, e := chain.Grow(aliceSeed(), label, l, epoch, value); len(x) != 0 || e != api.ErrArg {
		t.Error(name, ":", len(x), "versions and", e)
	}
}
