package head_test

import (
	"bytes"
	"testing"

	"rolodex/api"
	"rolodex/head"
	"rolodex/wire"
)

const roomAtTheEnd = 50

// roomy answers a copy of b with spare room, and all of that room.
func roomy(b []byte) ([]byte, []byte) {
	room := make([]byte, len(b)+roomAtTheEnd)
	copy(room, b)
	for i := len(b); i < len(room); i++ {
		room[i] = 77
	}
	return room[:len(b)], room
}

// spoil writes over bytes, and their spare room.
func spoil(b []byte) {
	b = b[:cap(b)]
	for i := range b {
		b[i] = 170
	}
}

func wantUnspoilt(t *testing.T, name string, room, was []byte) {
	t.Helper()
	if !bytes.Equal(room[:len(was)], was) {
		t.Error(name, ": what was handed in is changed")
	}
	for _, x := range room[len(was):] {
		if x != 77 {
			t.Error(name, ": the spare room is changed")
		}
	}
}

func TestP171ArgumentsStayAsTheyAre(t *testing.T) {
	was := bytesOf(aHead())
	b, room := roomy(was)
	head.Decode(b)
	wantUnspoilt(t, "Decode", room, was)
	head.Decode(b[1:])
	wantUnspoilt(t, "Decode with an error", room, was)

	s := signer(t, 1, 1, 3, api.Hash{5})
	x := sign(t, s, 1, aHead())
	sig, room := roomy(x.Sig)
	public, publicRoom := roomy(s.Public())
	own := head.Signed{Head: aHead(), Sig: sig}
	wantRight(t, "with spare room", own, public, true)
	var w wire.Writer
	head.Put(&w, own)
	head.Put(&w, head.Signed{Sig: sig})
	wantUnspoilt(t, "Right and Put", room, x.Sig)
	wantUnspoilt(t, "Right", publicRoom, s.Public())

	was = signedBytesOf(x)
	b, room = roomy(was)
	head.Take(wire.New(b))
	head.Take(wire.New(b[:100]))
	wantUnspoilt(t, "Take", room, was)
}

// What is answered is new memory: what was handed in may be written over, and what was answered
// too.
func TestP171AnswersAreNewMemory(t *testing.T) {
	b, _ := head.Encode(aHead())
	c, _ := head.Encode(aHead())
	spoil(b)
	if !bytes.Equal(c, bytesOf(aHead())) {
		t.Error("two answers of Encode share memory")
	}
	b = bytesOf(aHead())
	h, _ := head.Decode(b)
	spoil(b)
	if h != aHead() {
		t.Error("Decode keeps what it was handed")
	}
	s := signer(t, 1, 1, 3, api.Hash{5})
	x, y := sign(t, s, 1, aHead()), sign(t, s, 1, aHead())
	want := bytes.Clone(y.Sig)
	spoil(x.Sig)
	if !bytes.Equal(y.Sig, want) || !bytes.Equal(sign(t, s, 1, aHead()).Sig, want) {
		t.Error("two answers of Sign share memory")
	}
}

// What is put isn't kept, and what is taken is neither the reader's nor another one's.
func TestP171PutAndTakeShareNothing(t *testing.T) {
	was := head.Signed{Head: aHead(), Sig: counted(700)}
	s := head.Signed{Head: aHead(), Sig: counted(700)}
	var w wire.Writer
	head.Put(&w, s)
	spoil(s.Sig)
	b, e := w.Out()
	if e != api.OK || !bytes.Equal(b, signedBytesOf(was)) {
		t.Error("Put keeps what it was handed:", e)
	}
	r := wire.New(append(bytes.Clone(b), b...))
	copied := *r
	x := head.Take(r)
	spoil(x.Sig)
	if y := head.Take(r); !same(y, was) || !r.Done() {
		t.Error("what is taken is the reader's:", y.Head, r.Left())
	}
	if y := head.Take(&copied); !same(y, was) || copied.Left() != len(b) || copied.Fails() {
		t.Error("a reader hangs on its copy:", y.Head, copied.Left())
	}
	r = wire.New(b)
	x = head.Take(r)
	spoil(b)
	if !same(x, was) {
		t.Error("Take keeps the bytes that the reader was made of")
	}
}
