package head_test

import (
	"bytes"
	"fmt"
	"math/rand"
	"slices"
	"strings"
	"testing"

	"rolodex/api"
	"rolodex/head"
	"rolodex/wire"
)

// Byte for byte. Nobody who puts or takes asks whether a signature is right.
func TestP171PutAndTakeWrittenOut(t *testing.T) {
	tree, log := strings.Repeat("t", 32), strings.Repeat("l", 32)
	h := head.Head{0x01020304, 0x0a0b0c0d, api.Hash([]byte(tree)), api.Hash([]byte(log))}
	front := "\x01\x02\x03\x04\x0a\x0b\x0c\x0d" + tree + log
	for _, c := range []struct{ sig, want string }{
		{"", front + "\x00\x00"},
		{"s", front + "\x00\x01s"},
		{"sig", front + "\x00\x03sig"},
		{strings.Repeat("s", 255), front + "\x00\xff" + strings.Repeat("s", 255)},
		{strings.Repeat("s", 256), front + "\x01\x00" + strings.Repeat("s", 256)},
		{strings.Repeat("s", 8191), front + "\x1f\xff" + strings.Repeat("s", 8191)},
		{strings.Repeat("s", 8192), front + "\x20\x00" + strings.Repeat("s", 8192)},
	} {
		s := head.Signed{Head: h, Sig: []byte(c.sig)}
		if b := put(t, s); string(b) != c.want {
			t.Errorf("a signature of %d bytes: %q", len(c.sig), b[:min(len(b), 80)])
		}
		r := wire.New([]byte(c.want))
		if x := head.Take(r); !same(x, s) || !r.Done() {
			t.Error("a signature of", len(c.sig), "bytes:", x.Head, len(x.Sig), r.Done())
		}
	}
	if b := put(t, head.Signed{Head: h}); string(b) != front+"\x00\x00" {
		t.Errorf("no signature: %q", b)
	}
}

// Between other fields, and behind one another.
func TestP171PutBetweenOthers(t *testing.T) {
	chance := rand.New(rand.NewSource(1713))
	one, two := anySigned(chance, 300), anySigned(chance, 0)
	var w wire.Writer
	w.U16(7)
	head.Put(&w, one)
	head.Put(&w, two)
	w.Flag(true)
	head.Put(&w, one)
	w.U8(9)
	b, e := w.Out()
	want := slices.Concat([]byte{0, 7}, signedBytesOf(one), signedBytesOf(two), []byte{1}, signedBytesOf(one), []byte{9})
	if e != api.OK || !bytes.Equal(b, want) {
		t.Error("other bytes:", e)
	}
	r := wire.New(want)
	ok := r.U16() == 7 && same(head.Take(r), one) && same(head.Take(r), two) && r.Flag() && same(head.Take(r), one)
	if !ok || r.Left() != 1 || r.Fails() || r.U8() != 9 || !r.Done() {
		t.Error("other fields are taken:", r.Left(), r.Fails())
	}
}

func TestP171PutOfNumbers(t *testing.T) {
	for _, epoch := range rightNumbers() {
		for _, tick := range rightNumbers() {
			s := head.Signed{Head: head.Head{Epoch: epoch, Tick: tick, Tree: countedHash(1), Log: countedHash(2)}, Sig: counted(5)}
			if b := put(t, s); !bytes.Equal(b, signedBytesOf(s)) {
				t.Error("of", epoch, tick, ":", b)
			}
			r := wire.New(signedBytesOf(s))
			if x := head.Take(r); !same(x, s) || !r.Done() {
				t.Error("of", epoch, tick, ":", x)
			}
		}
	}
}

func TestP171PutOfNoHead(t *testing.T) {
	for _, h := range noHeads() {
		for _, sig := range [][]byte{nil, counted(9), counted(8192), counted(8193)} {
			var w, behind wire.Writer
			head.Put(&w, head.Signed{Head: h, Sig: sig})
			wantSpoilt(t, fmt.Sprint("no head ", h), &w)
			behind.U32(5)
			head.Put(&behind, head.Signed{Head: aHead(), Sig: counted(9)})
			head.Put(&behind, head.Signed{Head: h, Sig: sig})
			wantSpoilt(t, fmt.Sprint("behind others, no head ", h), &behind)
		}
	}
}

func TestP171PutOfLongSignatures(t *testing.T) {
	for _, n := range []int{8193, 8194, 10000, 16384, 17108, 65535, 65536, 65537, 65536 + 8192, 1 << 20} {
		var w, behind wire.Writer
		head.Put(&w, head.Signed{Head: aHead(), Sig: counted(n)})
		wantSpoilt(t, fmt.Sprint("a signature of bytes: ", n), &w)
		behind.U32(5)
		head.Put(&behind, head.Signed{Head: aHead(), Sig: counted(9)})
		head.Put(&behind, head.Signed{Head: aHead(), Sig: counted(n)})
		wantSpoilt(t, fmt.Sprint("behind others, a signature of bytes: ", n), &behind)
	}
	for _, n := range []int{0, 1, 2, 1000, 2188, 4300, 8190, 8191, 8192} {
		s := head.Signed{Head: aHead(), Sig: counted(n)}
		if b := put(t, s); !bytes.Equal(b, signedBytesOf(s)) {
			t.Error("a signature of bytes:", n)
		}
	}
}

func TestP171PutToOtherWriters(t *testing.T) {
	head.Put(nil, head.Signed{Head: aHead(), Sig: counted(9)})
	head.Put(nil, head.Signed{})
	head.Put(nil, head.Signed{Head: aHead(), Sig: counted(9000)})
	var w wire.Writer
	w.U8(256)
	head.Put(&w, head.Signed{Head: aHead(), Sig: counted(9)})
	wantSpoilt(t, "a writer that was spoiled", &w)
}

// Whatever is cut off behind: a whole head is not taken without its signature.
func TestP171TakeCutShort(t *testing.T) {
	for _, n := range []int{0, 1, 2, 300} {
		b := signedBytesOf(head.Signed{Head: aHead(), Sig: counted(n)})
		for size := range b {
			wantNotTaken(t, fmt.Sprint("so many bytes of ", n, ": ", size), b[:size])
		}
	}
	wantNotTaken(t, "nothing", nil)
	long := signedBytesOf(head.Signed{Head: aHead(), Sig: counted(8192)})
	for _, size := range []int{headSize, headSize + 1, headSize + 2, headSize + 258, len(long) - 256, len(long) - 2, len(long) - 1} {
		wantNotTaken(t, fmt.Sprint("so many bytes of a long one: ", size), long[:size])
	}
}

func TestP171TakeOfWrongNumbers(t *testing.T) {
	wrong := []int{0, 1 << 31, 1<<31 + 1, 1<<31 + 258, 3 << 30, 1<<32 - 2, 1<<32 - 1}
	for _, x := range wrong {
		for _, y := range append(rightNumbers(), wrong...) {
			for _, h := range []head.Head{{Epoch: x, Tick: y}, {Epoch: y, Tick: x, Tree: countedHash(1), Log: countedHash(2)}} {
				for _, sig := range [][]byte{nil, counted(9)} {
					wantNotTaken(t, fmt.Sprint("wrong numbers ", x, y), signedBytesOf(head.Signed{Head: h, Sig: sig}))
				}
			}
		}
	}
	wantNotTaken(t, "noughts", make([]byte, 200))
	wantNotTaken(t, "all bits", bytes.Repeat([]byte{255}, 70000))
}

// A string's number of bytes is there, and they are, but they are too many.
func TestP171TakeOfLongSignatures(t *testing.T) {
	for _, n := range []int{8193, 8194, 8448, 16384, 32768, 65535} {
		b := signedBytesOf(head.Signed{Head: aHead(), Sig: counted(n)})
		wantNotTaken(t, fmt.Sprint("a signature of bytes: ", n), b)
		wantNotTaken(t, fmt.Sprint("a signature of bytes, and others: ", n), append(b, counted(70000)...))
	}
}

// A reader that failed ahead takes nothing, though there is a signed head.
func TestP171TakeOfOtherReaders(t *testing.T) {
	if s := head.Take(nil); !isZero(s) {
		t.Error("no reader:", s)
	}
	b := signedBytesOf(head.Signed{Head: aHead(), Sig: counted(9)})
	for _, fail := range []func(r *wire.Reader){
		func(r *wire.Reader) { r.Plain(-1) },
		func(r *wire.Reader) { r.Plain(len(b) + 2) },
		func(r *wire.Reader) { r.Flag() },
	} {
		c := append([]byte{2}, b...)
		r := wire.New(c)
		fail(r)
		if s := head.Take(r); !r.Fails() || !isZero(s) || r.Left() != len(c) {
			t.Error("a reader that failed:", s, r.Fails(), r.Left())
		}
	}
	r := wire.New(b)
	r.Plain(-1)
	if s := head.Take(r); !r.Fails() || !isZero(s) || r.Left() != len(b) {
		t.Error("a reader that failed:", s, r.Fails(), r.Left())
	}
}

// A reader goes on behind a right one, and fails at a wrong one, of which it takes nothing.
func TestP171TakeBehindOthers(t *testing.T) {
	one, two := head.Signed{Head: aHead(), Sig: counted(7)}, head.Signed{Head: head.Head{Epoch: 1, Tick: 2}, Sig: counted(3)}
	both := append(signedBytesOf(one), signedBytesOf(two)...)
	first := len(signedBytesOf(one))
	for size := first; size <= len(both); size++ {
		r := wire.New(both[:size])
		if x := head.Take(r); !same(x, one) || r.Fails() || r.Left() != size-first {
			t.Error("the first one, of bytes:", size, x, r.Fails(), r.Left())
		}
		x, whole := head.Take(r), size == len(both)
		if whole && (!same(x, two) || !r.Done()) {
			t.Error("the second one:", x, r.Fails(), r.Left())
		}
		if !whole && (!isZero(x) || !r.Fails() || r.Left() != size-first) {
			t.Error("the second one, cut short, of bytes:", size, x, r.Fails(), r.Left())
		}
	}
}

// Whatever the bytes are: what a reader takes of them is what the model takes.
func TestP171TakeOfAnything(t *testing.T) {
	chance := rand.New(rand.NewSource(1714))
	taken := 0
	for range 20000 {
		b := signedBytesOf(anySigned(chance, chance.Intn(40)))
		for range chance.Intn(3) {
			switch chance.Intn(5) {
			case 0:
				b = b[:chance.Intn(len(b)+1)]
			case 1:
				b = append(b, counted(chance.Intn(30))...)
			case 2:
				if at := chance.Intn(80); at < len(b) {
					b[at] ^= 1 << chance.Intn(8)
				}
			case 3:
				if len(b) > 8 {
					copy(b[4*chance.Intn(2):], inFour(append(rightNumbers(), wrongNumbers()...)[chance.Intn(30)]))
				}
			default:
				if len(b) > 73 {
					b[72], b[73] = byte(chance.Intn(2)), byte(chance.Intn(60))
				}
			}
		}
		want, size, ok := signedOf(b)
		if !ok {
			wantNotTaken(t, "at random", b)
			continue
		}
		taken++
		r := wire.New(b)
		if x := head.Take(r); !same(x, want) || r.Fails() || r.Left() != len(b)-size {
			t.Error("of", b, ":", x, r.Fails(), r.Left())
		}
	}
	if taken < 5000 || taken > 15000 {
		t.Error("the test itself is wrong: taken:", taken)
	}
}
