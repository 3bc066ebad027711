package wire_test

import (
	"bytes"
	"math"
	"strings"
	"testing"

	"rolodex/api"
	"rolodex/wire"
)

type write struct {
	name string
	do   func(w *wire.Writer)
	want []byte
}

// rightWrites has a call of every kind, and the edges of each, with the bytes it puts.
func rightWrites() []write {
	most := bytes.Repeat([]byte{7}, api.MaxBytes)
	over := bytes.Repeat([]byte{8}, api.MaxBytes+1)
	return []write{
		{"U8 0", func(w *wire.Writer) { w.U8(0) }, []byte{0}},
		{"U8 1", func(w *wire.Writer) { w.U8(1) }, []byte{1}},
		{"U8 255", func(w *wire.Writer) { w.U8(255) }, []byte{255}},
		{"U16 0", func(w *wire.Writer) { w.U16(0) }, []byte{0, 0}},
		{"U16 258", func(w *wire.Writer) { w.U16(258) }, []byte{1, 2}},
		{"U16 65535", func(w *wire.Writer) { w.U16(65535) }, []byte{255, 255}},
		{"U32 0", func(w *wire.Writer) { w.U32(0) }, []byte{0, 0, 0, 0}},
		{"U32", func(w *wire.Writer) { w.U32(0x01020304) }, []byte{1, 2, 3, 4}},
		{"U32 all", func(w *wire.Writer) { w.U32(math.MaxUint32) }, []byte{255, 255, 255, 255}},
		{"U64 0", func(w *wire.Writer) { w.U64(0) }, make([]byte, 8)},
		{"U64", func(w *wire.Writer) { w.U64(0x0102030405060708) }, []byte{1, 2, 3, 4, 5, 6, 7, 8}},
		{"U64 all", func(w *wire.Writer) { w.U64(math.MaxUint64) }, bytes.Repeat([]byte{255}, 8)},
		{"Flag true", func(w *wire.Writer) { w.Flag(true) }, []byte{1}},
		{"Flag false", func(w *wire.Writer) { w.Flag(false) }, []byte{0}},
		{"Plain nil", func(w *wire.Writer) { w.Plain(nil) }, nil},
		{"Plain", func(w *wire.Writer) { w.Plain([]byte{9, 0, 8}) }, []byte{9, 0, 8}},
		{"Plain over MaxBytes", func(w *wire.Writer) { w.Plain(over) }, over},
		{"String nil", func(w *wire.Writer) { w.String(nil) }, []byte{0, 0}},
		{"String", func(w *wire.Writer) { w.String([]byte("ab")) }, []byte{0, 2, 'a', 'b'}},
		{"String MaxBytes", func(w *wire.Writer) { w.String(most) }, append([]byte{32, 0}, most...)},
		{"Count 0", func(w *wire.Writer) { w.Count(0) }, []byte{0, 0}},
		{"Count 3", func(w *wire.Writer) { w.Count(3) }, []byte{0, 3}},
		{"Count MaxCount", func(w *wire.Writer) { w.Count(api.MaxCount) }, []byte{16, 0}},
	}
}

func wrongWrites() []write {
	return []write{
		{"U8 -1", func(w *wire.Writer) { w.U8(-1) }, nil},
		{"U8 256", func(w *wire.Writer) { w.U8(256) }, nil},
		{"U8 least", func(w *wire.Writer) { w.U8(math.MinInt) }, nil},
		{"U8 greatest", func(w *wire.Writer) { w.U8(math.MaxInt) }, nil},
		{"U16 -1", func(w *wire.Writer) { w.U16(-1) }, nil},
		{"U16 65536", func(w *wire.Writer) { w.U16(65536) }, nil},
		{"U16 least", func(w *wire.Writer) { w.U16(math.MinInt) }, nil},
		{"U16 greatest", func(w *wire.Writer) { w.U16(math.MaxInt) }, nil},
		{"Count -1", func(w *wire.Writer) { w.Count(-1) }, nil},
		{"Count MaxCount+1", func(w *wire.Writer) { w.Count(api.MaxCount + 1) }, nil},
		{"Count 65535", func(w *wire.Writer) { w.Count(65535) }, nil},
		{"Count least", func(w *wire.Writer) { w.Count(math.MinInt) }, nil},
		{"Count greatest", func(w *wire.Writer) { w.Count(math.MaxInt) }, nil},
		{"String MaxBytes+1", func(w *wire.Writer) { w.String(make([]byte, api.MaxBytes+1)) }, nil},
		{"String 65537", func(w *wire.Writer) { w.String(make([]byte, 65537)) }, nil},
	}
}

func wantOut(t *testing.T, w *wire.Writer, want []byte) {
	t.Helper()
	if b, e := w.Out(); e != api.OK || !bytes.Equal(b, want) {
		t.Errorf("Out: %d bytes, error %d; want %d bytes, none", len(b), e, len(want))
	}
}

func wantNoOut(t *testing.T, w *wire.Writer, want api.Errno) {
	t.Helper()
	if b, e := w.Out(); e != want || len(b) != 0 {
		t.Errorf("Out: %d bytes, error %d; want none, error %d", len(b), e, want)
	}
}

func TestP11Example(t *testing.T) {
	var w wire.Writer
	w.U16(258)
	w.Flag(true)
	wantOut(t, &w, []byte{1, 2, 1})
}

func TestP11ZeroWriterIsReady(t *testing.T) {
	wantOut(t, new(wire.Writer), nil)
}

func TestP11EachField(t *testing.T) {
	for _, c := range rightWrites() {
		t.Run(c.name, func(t *testing.T) {
			var w wire.Writer
			c.do(&w)
			wantOut(t, &w, c.want)
		})
	}
}

// Each field is put behind every other, and what Out answered on the way stays as it was.
func TestP11OneBehindTheOther(t *testing.T) {
	for _, first := range rightWrites() {
		var w wire.Writer
		first.do(&w)
		early, _ := w.Out()
		want := bytes.Clone(first.want)
		for _, c := range rightWrites() {
			c.do(&w)
			want = append(want, c.want...)
			wantOut(t, &w, want)
		}
		if !bytes.Equal(early, first.want) {
			t.Error(first.name, "changed what was answered ahead of it")
		}
	}
}

// Lengths around any round number: no byte is lost or doubled where a writer begins a new piece.
func TestP11ManyBytes(t *testing.T) {
	var w wire.Writer
	var want []byte
	for i := range 3000 {
		w.U8(i % 251)
		want = append(want, byte(i%251))
		wantOut(t, &w, want)
	}
}

func TestP11Spoils(t *testing.T) {
	for _, wrong := range wrongWrites() {
		t.Run(wrong.name, func(t *testing.T) {
			var w wire.Writer
			wrong.do(&w)
			wantNoOut(t, &w, api.ErrRange)
		})
	}
}

func TestP11StaysSpoiled(t *testing.T) {
	for _, wrong := range wrongWrites() {
		var w wire.Writer
		w.Plain([]byte(strings.Repeat("ahead", 300)))
		wrong.do(&w)
		wantNoOut(t, &w, api.ErrRange)
		for _, right := range rightWrites() {
			right.do(&w)
			wantNoOut(t, &w, api.ErrRange)
		}
		for _, other := range wrongWrites() {
			other.do(&w)
			wantNoOut(t, &w, api.ErrRange)
		}
	}
}

func TestP11NilWriter(t *testing.T) {
	var w *wire.Writer
	wantNoOut(t, w, api.ErrArg)
	for _, c := range append(rightWrites(), wrongWrites()...) {
		c.do(w)
		wantNoOut(t, w, api.ErrArg)
	}
}

func TestP11KeepsNothingHandedIn(t *testing.T) {
	room := []byte("abcdef")
	b := room[:3]
	var w wire.Writer
	w.Plain(b)
	w.String(b)
	w.U8(1)
	if string(room) != "abcdef" {
		t.Error("what was handed in is changed:", room)
	}
	clear(room)
	wantOut(t, &w, []byte("abc\x00\x03abc\x01"))
}

func TestP11AnswersNewMemory(t *testing.T) {
	var w wire.Writer
	want := bytes.Repeat([]byte("xyz"), 500)
	w.Plain(want)
	b, _ := w.Out()
	clear(b)
	clear(b[len(b):cap(b)])
	wantOut(t, &w, want)
	w.U8(4)
	wantOut(t, &w, append(bytes.Clone(want), 4))
}

func TestP11WritersAreApart(t *testing.T) {
	var a, b wire.Writer
	for i := range 1000 {
		a.U8(i % 256)
		b.U8(255 - i%256)
	}
	b.U8(256)
	x, e := a.Out()
	if e != api.OK || len(x) != 1000 || x[999] != 999%256 {
		t.Error(len(x), e)
	}
	wantNoOut(t, &b, api.ErrRange)
}

// A writer and a copy of it go on apart, from wherever the copy was made.
func TestP11CopiesAreApart(t *testing.T) {
	for n := range 600 {
		var w wire.Writer
		want := bytes.Repeat([]byte{5}, n)
		w.Plain(want)
		other, spoiled := w, w
		w.U16(0x0102)
		other.U16(0x0304)
		spoiled.U8(-1)
		wantOut(t, &w, append(bytes.Clone(want), 1, 2))
		wantOut(t, &other, append(bytes.Clone(want), 3, 4))
		wantNoOut(t, &spoiled, api.ErrRange)
	}
}
