package head_test

import (
	"bytes"
	"encoding/hex"
	"math"
	"math/rand"
	"slices"
	"testing"

	"rolodex/api"
	"rolodex/head"
	"rolodex/hss"
	"rolodex/wire"
)

const (
	mostNumber = 1<<31 - 1
	headSize   = 72
)

func hashOf(digits string) api.Hash {
	b, e := hex.DecodeString(digits)
	if e != nil {
		panic(e)
	}
	return api.Hash(b)
}

// countedHash has 32 bytes that rise from the first one on.
func countedHash(first byte) api.Hash {
	var h api.Hash
	for i := range h {
		h[i] = first + byte(i)
	}
	return h
}

func counted(n int) []byte {
	b := make([]byte, n)
	for i := range b {
		b[i] = byte(i % 251)
	}
	return b
}

// isNumber has the chapter's words.
func isNumber(x int) bool { return x > 0 && x <= mostNumber }

func isHead(h head.Head) bool { return isNumber(h.Epoch) && isNumber(h.Tick) }

// inFour answers the number's last four bytes, whatever it is.
func inFour(x int) []byte {
	return []byte{byte(x >> 24), byte(x >> 16), byte(x >> 8), byte(x)}
}

// bytesOf answers 72 bytes, also of what is no head: its numbers are modulo 2^32 then.
func bytesOf(h head.Head) []byte {
	return slices.Concat(inFour(h.Epoch), inFour(h.Tick), h.Tree[:], h.Log[:])
}

// signedBytesOf answers a signed head's bytes, also of what is none.
func signedBytesOf(s head.Signed) []byte {
	n := len(s.Sig)
	return slices.Concat(bytesOf(s.Head), []byte{byte(n >> 8), byte(n)}, s.Sig)
}

func numberAt(b []byte, at int) int {
	return int(b[at])<<24 | int(b[at+1])<<16 | int(b[at+2])<<8 | int(b[at+3])
}

// headOf answers the head that the first 72 bytes are, if there are so many, and they are one's.
func headOf(b []byte) (head.Head, bool) {
	if len(b) < headSize {
		return head.Head{}, false
	}
	h := head.Head{Epoch: numberAt(b, 0), Tick: numberAt(b, 4), Tree: api.Hash(b[8:40]), Log: api.Hash(b[40:72])}
	return h, isHead(h)
}

// signedOf answers the signed head that b begins with, if there is one, and its number of bytes.
func signedOf(b []byte) (head.Signed, int, bool) {
	h, ok := headOf(b)
	if !ok || len(b) < headSize+2 {
		return head.Signed{}, 0, false
	}
	size := int(b[headSize])<<8 | int(b[headSize+1])
	all := headSize + 2 + size
	if size > 8192 || len(b) < all {
		return head.Signed{}, 0, false
	}
	return head.Signed{Head: h, Sig: b[headSize+2 : all]}, all, true
}

// aHead has other bytes at each place of its 72.
func aHead() head.Head {
	return head.Head{Epoch: 0x01020304, Tick: 0x05060708, Tree: countedHash(9), Log: countedHash(41)}
}

// rightNumbers are those that an epoch or a tick may be: at the edges of bytes, and some others.
func rightNumbers() []int {
	return []int{1, 2, 127, 128, 255, 256, 257, 258, 65535, 65536, 1<<24 - 1, 1 << 24, 1<<24 + 1, 1 << 30, mostNumber - 1, mostNumber}
}

// wrongNumbers may be neither an epoch nor a tick; modulo 2^31, or 2^32, some could.
func wrongNumbers() []int {
	return []int{
		0, -1, -2, -255, -256, -mostNumber, -1 << 31, -1<<31 - 1, -1<<31 + 1, 1 << 31, 1<<31 + 1, 1<<31 + 5, 1<<32 - 1,
		1 << 32, 1<<32 + 1, 1<<32 + 5, -1 << 32, 1 - 1<<32, 5 - 1<<32, 1 << 33, 1<<40 + 7, 1 << 62, 1<<62 + 1,
		math.MinInt, math.MinInt + 1, math.MaxInt, math.MaxInt - 1,
	}
}

// noHeads have a wrong epoch, a wrong tick, or both of them.
func noHeads() []head.Head {
	l := []head.Head{{}, {Epoch: 1}, {Tick: 1}, {Tree: countedHash(1), Log: countedHash(2)}}
	for i, x := range wrongNumbers() {
		good := rightNumbers()[i%len(rightNumbers())]
		for _, h := range []head.Head{{Epoch: x, Tick: good}, {Epoch: good, Tick: x}, {Epoch: x, Tick: x}} {
			l = append(l, h)
			h.Tree, h.Log = countedHash(9), countedHash(41)
			l = append(l, h)
		}
	}
	return l
}

func anyHead(chance *rand.Rand) head.Head {
	h := head.Head{Epoch: 1 + chance.Intn(mostNumber), Tick: 1 + chance.Intn(mostNumber)}
	if chance.Intn(2) == 0 {
		h.Epoch = rightNumbers()[chance.Intn(len(rightNumbers()))]
		h.Tick = rightNumbers()[chance.Intn(len(rightNumbers()))]
	}
	chance.Read(h.Tree[:])
	chance.Read(h.Log[:])
	return h
}

func anySigned(chance *rand.Rand, size int) head.Signed {
	s := head.Signed{Head: anyHead(chance), Sig: make([]byte, size)}
	chance.Read(s.Sig)
	return s
}

// others answers heads of which one field, by one bit, or two fields are other ones.
func others(h head.Head) []head.Head {
	var l []head.Head
	for bit := range 31 {
		x := h
		x.Epoch ^= 1 << bit
		y := h
		y.Tick ^= 1 << bit
		l = append(l, x, y)
	}
	for i := range 32 {
		x := h
		x.Tree[i] ^= 1 << (i % 8)
		y := h
		y.Log[i] ^= 128 >> (i % 8)
		l = append(l, x, y)
	}
	swapped := head.Head{Epoch: h.Tick, Tick: h.Epoch, Tree: h.Tree, Log: h.Log}
	turned := head.Head{Epoch: h.Epoch, Tick: h.Tick, Tree: h.Log, Log: h.Tree}
	l = append(l, swapped, turned, head.Head{Epoch: h.Epoch, Tick: h.Tick})
	return slices.DeleteFunc(l, func(x head.Head) bool { return x == h || !isHead(x) })
}

func same(a, b head.Signed) bool {
	return a.Head == b.Head && bytes.Equal(a.Sig, b.Sig)
}

func isZero(s head.Signed) bool {
	return s.Head == head.Head{} && len(s.Sig) == 0
}

func signer(t *testing.T, top, bottom, kind int, seed api.Hash) *hss.Signer {
	t.Helper()
	s, e := hss.New(top, bottom, kind, seed)
	if e != api.OK {
		t.Fatal("New:", e)
	}
	return s
}

func sign(t *testing.T, s *hss.Signer, n int, h head.Head) head.Signed {
	t.Helper()
	x, e := head.Sign(s, n, h)
	if e != api.OK {
		t.Fatal("the signature", n, ":", e)
	}
	return x
}

func wantNotSigned(t *testing.T, name string, s *hss.Signer, n int, h head.Head, want api.Errno) {
	t.Helper()
	if x, e := head.Sign(s, n, h); e != want || !isZero(x) {
		t.Error(name, ":", n, x, e)
	}
}

func wantRight(t *testing.T, name string, s head.Signed, public []byte, want bool) {
	t.Helper()
	if head.Right(s, public) != want {
		t.Errorf("%s: Right isn't %t, of %v by %x", name, want, s.Head, public)
	}
}

func put(t *testing.T, l ...head.Signed) []byte {
	t.Helper()
	var w wire.Writer
	for _, s := range l {
		head.Put(&w, s)
	}
	b, e := w.Out()
	if e != api.OK {
		t.Fatal("Put:", e)
	}
	return b
}

// wantSpoilt holds a writer to be spoiled, whatever is put then.
func wantSpoilt(t *testing.T, name string, w *wire.Writer) {
	t.Helper()
	if b, e := w.Out(); e != api.ErrRange || len(b) != 0 {
		t.Error(name, ": it isn't spoiled:", len(b), e)
	}
	w.U8(1)
	head.Put(w, head.Signed{Head: aHead(), Sig: []byte{1}})
	if b, e := w.Out(); e != api.ErrRange || len(b) != 0 {
		t.Error(name, ": it isn't spoiled any more:", len(b), e)
	}
}

// wantNotTaken holds a reader of b to fail in Take, which answers a zero one and takes nothing.
func wantNotTaken(t *testing.T, name string, b []byte) {
	t.Helper()
	r := wire.New(b)
	if s := head.Take(r); !isZero(s) {
		t.Error(name, ": it answers", s)
	}
	if !r.Fails() || r.Done() || r.Left() != len(b) {
		t.Error(name, ": it fails, is done, has left:", r.Fails(), r.Done(), r.Left(), "of", len(b))
	}
	if s := head.Take(r); !isZero(s) || !r.Fails() || r.Left() != len(b) || r.U8() != 0 {
		t.Error(name, ": it doesn't fail any more")
	}
}
