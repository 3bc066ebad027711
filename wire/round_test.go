package wire_test

import (
	"bytes"
	"math/rand"
	"testing"

	"rolodex/api"
	"rolodex/wire"
)

// A field is put by one call, and the other tells whether it comes back.
type field struct {
	put  func(w *wire.Writer)
	back func(r *wire.Reader) bool
}

func bytesField(n int, chance *rand.Rand) field {
	b := make([]byte, n)
	chance.Read(b)
	if chance.Intn(2) == 0 {
		return field{func(w *wire.Writer) { w.Plain(b) }, func(r *wire.Reader) bool { return bytes.Equal(r.Plain(n), b) }}
	}
	most := n + chance.Intn(2)
	return field{func(w *wire.Writer) { w.String(b) }, func(r *wire.Reader) bool { return bytes.Equal(r.String(most), b) }}
}

func anyField(chance *rand.Rand) field {
	x := chance.Uint64() >> chance.Intn(64)
	switch chance.Intn(8) {
	case 0:
		n := int(x % 256)
		return field{func(w *wire.Writer) { w.U8(n) }, func(r *wire.Reader) bool { return r.U8() == n }}
	case 1:
		n := int(x % 65536)
		return field{func(w *wire.Writer) { w.U16(n) }, func(r *wire.Reader) bool { return r.U16() == n }}
	case 2:
		n := uint32(x)
		return field{func(w *wire.Writer) { w.U32(n) }, func(r *wire.Reader) bool { return r.U32() == n }}
	case 3:
		return field{func(w *wire.Writer) { w.U64(x) }, func(r *wire.Reader) bool { return r.U64() == x }}
	case 4:
		b := x%2 == 1
		return field{func(w *wire.Writer) { w.Flag(b) }, func(r *wire.Reader) bool { return r.Flag() == b }}
	case 5:
		n := int(x % (api.MaxCount + 1))
		return field{func(w *wire.Writer) { w.Count(n) }, func(r *wire.Reader) bool { return r.Count(n) == n }}
	case 6:
		return bytesField(int(x%(api.MaxBytes+1)), chance)
	}
	return bytesField(int(x%40), chance)
}

func TestP13WhatIsWrittenIsRead(t *testing.T) {
	chance := rand.New(rand.NewSource(13))
	for range 400 {
		l := make([]field, chance.Intn(60))
		var w wire.Writer
		for i := range l {
			l[i] = anyField(chance)
			l[i].put(&w)
		}
		b, e := w.Out()
		if e != api.OK {
			t.Fatal(e)
		}
		r := wire.New(b)
		for i, f := range l {
			if !f.back(r) {
				t.Fatalf("field %d of %d comes back as another", i, len(l))
			}
		}
		wantReader(t, r, 0, false)
	}
}

// Every number of one and of two bytes, and every count and length, comes back.
func TestP13EveryNumber(t *testing.T) {
	back := func(n int, put func(w *wire.Writer), take func(r *wire.Reader) int) {
		t.Helper()
		var w wire.Writer
		put(&w)
		b, _ := w.Out()
		r := wire.New(b)
		if x := take(r); x != n || !r.Done() {
			t.Fatal(n, "comes back as", x)
		}
	}
	for n := range 256 {
		back(n, func(w *wire.Writer) { w.U8(n) }, (*wire.Reader).U8)
	}
	for n := range 65536 {
		back(n, func(w *wire.Writer) { w.U16(n) }, (*wire.Reader).U16)
	}
	for n := range api.MaxCount + 1 {
		back(n, func(w *wire.Writer) { w.Count(n) }, func(r *wire.Reader) int { return r.Count(api.MaxCount) })
	}
	for n := range api.MaxBytes + 1 {
		b := make([]byte, n)
		back(n, func(w *wire.Writer) { w.String(b) }, func(r *wire.Reader) int { return len(r.String(n)) })
	}
}

// What is cut off anywhere is never read as done.
func TestP13CutShort(t *testing.T) {
	var w wire.Writer
	w.U8(1)
	w.U16(2)
	w.U32(3)
	w.U64(4)
	w.Flag(true)
	w.Plain([]byte{5, 6})
	w.String([]byte("label"))
	w.Count(7)
	b, _ := w.Out()
	for n := range b {
		r := wire.New(b[:n])
		r.U8()
		r.U16()
		r.U32()
		r.U64()
		r.Flag()
		r.Plain(2)
		r.String(5)
		r.Count(7)
		if !r.Fails() || r.Done() {
			t.Error("cut at", n)
		}
	}
}
