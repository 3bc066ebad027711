package head_test

import (
	"bytes"
	"fmt"
	"math"
	"math/rand"
	"slices"
	"strings"
	"testing"

	"rolodex/api"
	"rolodex/frontier"
	"rolodex/hash"
	"rolodex/head"
)

func TestP171Examples(t *testing.T) {
	for _, h := range []head.Head{{Epoch: 1, Tick: 1}, aHead(), {Epoch: mostNumber, Tick: mostNumber}} {
		if b, e := head.Encode(h); e != api.OK || len(b) != 72 {
			t.Error("a head has", len(b), "bytes,", e)
		}
	}
}

// Byte for byte.
func TestP171EncodeAndDecodeWrittenOut(t *testing.T) {
	tree, log := strings.Repeat("t", 32), strings.Repeat("l", 32)
	noughts := strings.Repeat("\x00", 32)
	full := strings.Repeat("\xff", 32)
	for _, c := range []struct {
		h    head.Head
		want string
	}{
		{head.Head{Epoch: 1, Tick: 1}, "\x00\x00\x00\x01\x00\x00\x00\x01" + noughts + noughts},
		{head.Head{Epoch: 1, Tick: 2, Tree: api.Hash([]byte(tree))}, "\x00\x00\x00\x01\x00\x00\x00\x02" + tree + noughts},
		{head.Head{Epoch: 2, Tick: 1, Log: api.Hash([]byte(log))}, "\x00\x00\x00\x02\x00\x00\x00\x01" + noughts + log},
		{head.Head{0x01020304, 0x0a0b0c0d, api.Hash([]byte(tree)), api.Hash([]byte(log))}, "\x01\x02\x03\x04\x0a\x0b\x0c\x0d" + tree + log},
		{head.Head{258, 3, api.Hash([]byte(log)), api.Hash([]byte(tree))}, "\x00\x00\x01\x02\x00\x00\x00\x03" + log + tree},
		{head.Head{mostNumber, mostNumber, api.Hash([]byte(full)), api.Hash([]byte(full))}, "\x7f\xff\xff\xff\x7f\xff\xff\xff" + full + full},
		{head.Head{mostNumber, 1, api.Hash([]byte(tree)), api.Hash([]byte(tree))}, "\x7f\xff\xff\xff\x00\x00\x00\x01" + tree + tree},
		{head.Head{256, 1 << 24, api.Hash([]byte(full)), api.Hash{}}, "\x00\x00\x01\x00\x01\x00\x00\x00" + full + noughts},
	} {
		if b, e := head.Encode(c.h); e != api.OK || string(b) != c.want {
			t.Errorf("the bytes of %v: %q, %d", c.h, b, e)
		}
		if h, e := head.Decode([]byte(c.want)); e != api.OK || h != c.h {
			t.Errorf("the head of %q: %v, %d", c.want, h, e)
		}
	}
}

func TestP171EncodeOfNumbers(t *testing.T) {
	for _, epoch := range rightNumbers() {
		for _, tick := range rightNumbers() {
			h := head.Head{Epoch: epoch, Tick: tick, Tree: countedHash(100), Log: countedHash(200)}
			b, e := head.Encode(h)
			if e != api.OK || !bytes.Equal(b, bytesOf(h)) {
				t.Error("the bytes of", h, ":", b, e)
			}
			if x, e := head.Decode(bytesOf(h)); e != api.OK || x != h {
				t.Error("the head of", h, ":", x, e)
			}
		}
	}
}

// Any roots go, and each of their bytes has its own place.
func TestP171EncodeOfRoots(t *testing.T) {
	for i := range 32 {
		for _, x := range []byte{1, 128, 255} {
			a, b := aHead(), aHead()
			a.Tree[i] ^= x
			b.Log[i] ^= x
			for _, h := range []head.Head{a, b} {
				c, e := head.Encode(h)
				if e != api.OK || !bytes.Equal(c, bytesOf(h)) {
					t.Error("another byte at", i, ":", c, e)
				}
			}
		}
	}
}

func TestP171EncodeOfNoHead(t *testing.T) {
	for _, h := range noHeads() {
		if b, e := head.Encode(h); e != api.ErrArg || len(b) != 0 {
			t.Error("of", h, ":", b, e)
		}
	}
	for _, epoch := range wrongNumbers() {
		for _, tick := range append(wrongNumbers(), rightNumbers()...) {
			for _, h := range []head.Head{{Epoch: epoch, Tick: tick, Log: countedHash(1)}, {Epoch: tick, Tick: epoch, Tree: countedHash(1)}} {
				if b, e := head.Encode(h); e != api.ErrArg || len(b) != 0 {
					t.Error("of", h, ":", b, e)
				}
			}
		}
	}
}

func wantNoHead(t *testing.T, name string, b []byte) {
	t.Helper()
	if h, e := head.Decode(b); e != api.ErrForm || h != (head.Head{}) {
		t.Error(name, ":", h, e)
	}
}

// Bytes of another number than 72, whatever they begin or end with.
func TestP171DecodeOfOtherSizes(t *testing.T) {
	right := bytesOf(aHead())
	wantNoHead(t, "nil", nil)
	wantNoHead(t, "no bytes", []byte{})
	for n := range 300 {
		if n == headSize {
			continue
		}
		long := slices.Concat(right, right, right, right, right)
		wantNoHead(t, fmt.Sprint("the first bytes: ", n), long[:n])
		wantNoHead(t, fmt.Sprint("the last bytes: ", n), long[len(long)-n:])
		wantNoHead(t, fmt.Sprint("ones: ", n), bytes.Repeat([]byte{1}, n))
		wantNoHead(t, fmt.Sprint("noughts: ", n), make([]byte, n))
		wantNoHead(t, fmt.Sprint("a head, and noughts: ", n), append(slices.Clone(right), make([]byte, n+1)...))
	}
	for _, n := range []int{headSize + 256, headSize + 65536, 1 << 20} {
		wantNoHead(t, fmt.Sprint("many bytes: ", n), append(slices.Clone(right), make([]byte, n-headSize)...))
	}
}

// Epochs and ticks in four bytes of which one at least may not be.
func TestP171DecodeOfWrongNumbers(t *testing.T) {
	wrong := []int{0, 1 << 31, 1<<31 + 1, 1<<31 + 258, 3 << 30, 1<<32 - 2, 1<<32 - 1}
	for _, x := range wrong {
		for _, y := range append(rightNumbers(), wrong...) {
			for _, h := range []head.Head{{Epoch: x, Tick: y}, {Epoch: y, Tick: x}} {
				wantNoHead(t, fmt.Sprint("without roots ", x, y), bytesOf(h))
				h.Tree, h.Log = countedHash(1), countedHash(2)
				wantNoHead(t, fmt.Sprint("with roots ", x, y), bytesOf(h))
			}
		}
	}
	wantNoHead(t, "noughts", make([]byte, headSize))
	wantNoHead(t, "all bits", bytes.Repeat([]byte{255}, headSize))
}

// Each bit of a head's bytes counts.
func TestP171DecodeOfOtherBits(t *testing.T) {
	right := bytesOf(aHead())
	for at := range headSize {
		for bit := range 8 {
			b := slices.Clone(right)
			b[at] ^= 1 << bit
			h, e := head.Decode(b)
			want, is := headOf(b)
			if is && (e != api.OK || h != want || h == aHead()) {
				t.Error("another bit at", at, bit, ":", h, e)
			}
			if !is && (e != api.ErrForm || h != (head.Head{})) {
				t.Error("no head, by another bit at", at, bit, ":", h, e)
			}
		}
	}
}

func TestP171DecodeOfAnything(t *testing.T) {
	chance := rand.New(rand.NewSource(1711))
	heads := 0
	for range 20000 {
		b := make([]byte, headSize+chance.Intn(40)/38-chance.Intn(40)/38)
		chance.Read(b)
		for _, at := range []int{0, 4} {
			if chance.Intn(2) == 0 {
				copy(b[at:], inFour(append(rightNumbers(), wrongNumbers()...)[chance.Intn(30)]))
			}
		}
		want, is := headOf(b)
		is = is && len(b) == headSize
		if h, e := head.Decode(b); is && (e != api.OK || h != want) || !is && (e != api.ErrForm || h != head.Head{}) {
			t.Error("the head of", b, ":", h, e)
		}
		if is {
			heads++
		}
	}
	if heads < 3000 || heads > 15000 {
		t.Error("the test itself is wrong: heads:", heads)
	}
}

// The hashes were reckoned by another program.
func TestP171Entry(t *testing.T) {
	for _, c := range []struct {
		epoch int
		tree  api.Hash
		want  string
	}{
		{1, api.Hash{}, "120c4e5a29b8f49b3401db6e5b5f065ac35a068c62efa3431553e3cd409136c9"},
		{1, countedHash(0), "bb010fffdf2b7cb18b409b03c9243f84ccdd86566718a5a3404877f6bc9436dd"},
		{258, api.Hash{1}, "ff366a3ce601a22c8dcaf59c39c25108ce8939ee55a90cfcddff7674bc5be8e0"},
		{0x01020304, countedHash(100), "1ffae28d79d691aa7445af3a5d7ac8055d12e6343de7219c00bf22bb94b1dee8"},
		{mostNumber, countedHash(200), "d5b6853010480977aa28946a33db59576c4f8f1f4779e185a092cdfb6e3f4c5e"},
		{0, countedHash(0), "f6ffa61cfd8ca4e3973a3a82313e21eb47cc5435f858562d3ff71e2ef4fcf432"},
		{1 << 32, countedHash(0), "f6ffa61cfd8ca4e3973a3a82313e21eb47cc5435f858562d3ff71e2ef4fcf432"},
		{math.MinInt, countedHash(0), "f6ffa61cfd8ca4e3973a3a82313e21eb47cc5435f858562d3ff71e2ef4fcf432"},
		{1 << 31, countedHash(0), "0ee487f5831a59ac31f62b030d31097a08f63941c097f3b0219764c780da82d6"},
		{-1 << 31, countedHash(0), "0ee487f5831a59ac31f62b030d31097a08f63941c097f3b0219764c780da82d6"},
		{1<<32 - 1, countedHash(0), "2ad93f17ea050f38eca47f216e01519aa6a9bb8017c5ee5be15fa0c99d9abce8"},
		{-1, countedHash(0), "2ad93f17ea050f38eca47f216e01519aa6a9bb8017c5ee5be15fa0c99d9abce8"},
		{math.MaxInt, countedHash(0), "2ad93f17ea050f38eca47f216e01519aa6a9bb8017c5ee5be15fa0c99d9abce8"},
		{1<<32 + 1, countedHash(0), "bb010fffdf2b7cb18b409b03c9243f84ccdd86566718a5a3404877f6bc9436dd"},
		{1 - 1<<32, countedHash(0), "bb010fffdf2b7cb18b409b03c9243f84ccdd86566718a5a3404877f6bc9436dd"},
		{math.MinInt + 1, countedHash(0), "bb010fffdf2b7cb18b409b03c9243f84ccdd86566718a5a3404877f6bc9436dd"},
	} {
		if h := head.Entry(c.epoch, c.tree); h != hashOf(c.want) {
			t.Errorf("the entry of %d and %x: %x", c.epoch, c.tree[:2], h)
		}
	}
}

func TestP171EntryOfNumbers(t *testing.T) {
	found := map[api.Hash]int{}
	for _, epoch := range append(rightNumbers(), wrongNumbers()...) {
		for first := range 20 {
			tree := countedHash(byte(first))
			text := slices.Concat(inFour(epoch), tree[:])
			h := head.Entry(epoch, tree)
			if h != frontier.Leaf(text) || h != hash.Sum(append([]byte{0}, text...)) {
				t.Error("the entry of", epoch, first)
			}
			if last, ok := found[h]; ok && uint32(last) != uint32(epoch) {
				t.Error("one entry of", last, "and", epoch)
			}
			found[h] = epoch
		}
	}
}

// Each byte of a tree's root counts.
func TestP171EntryOfRoots(t *testing.T) {
	found := map[api.Hash]int{head.Entry(7, api.Hash{}): 1}
	for i := range 32 {
		for bit := range 8 {
			var tree api.Hash
			tree[i] = 1 << bit
			h := head.Entry(7, tree)
			if h != hash.Sum(slices.Concat([]byte{0, 0, 0, 0, 7}, tree[:])) {
				t.Error("the entry of another bit at", i, bit)
			}
			found[h]++
		}
	}
	if len(found) != 257 {
		t.Error("entries:", len(found))
	}
}
