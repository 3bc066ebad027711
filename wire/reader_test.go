package wire_test

import (
	"bytes"
	"math"
	"testing"

	"rolodex/api"
	"rolodex/wire"
)

// all calls every call that takes, and tells whether each answered its zero value.
func allAnswerZero(r *wire.Reader) bool {
	return r.U8() == 0 && r.U16() == 0 && r.U32() == 0 && r.U64() == 0 && !r.Flag() &&
		len(r.Plain(0)) == 0 && len(r.Plain(1)) == 0 && len(r.String(9)) == 0 && r.Count(9) == 0
}

func wantReader(t *testing.T, r *wire.Reader, left int, fails bool) {
	t.Helper()
	if r.Left() != left || r.Fails() != fails || r.Done() != (left == 0 && !fails) {
		t.Errorf("left %d, fails %v, done %v; want left %d, fails %v", r.Left(), r.Fails(), r.Done(), left, fails)
	}
}

// A call is written as one that answers whether it answered what is wanted.
type take struct {
	name string
	b    []byte
	do   func(r *wire.Reader) bool
	left int
}

// ones answers a string's n bytes behind their number.
func ones(n int) []byte {
	return append([]byte{byte(n >> 8), byte(n)}, bytes.Repeat([]byte{1}, n)...)
}

func rightTakes() []take {
	most := bytes.Repeat([]byte{1}, api.MaxBytes)
	return []take{
		{"U8", []byte{255, 7}, func(r *wire.Reader) bool { return r.U8() == 255 }, 1},
		{"U8 0", []byte{0}, func(r *wire.Reader) bool { return r.U8() == 0 }, 0},
		{"U16", []byte{1, 2, 7}, func(r *wire.Reader) bool { return r.U16() == 258 }, 1},
		{"U16 all", []byte{255, 255}, func(r *wire.Reader) bool { return r.U16() == 65535 }, 0},
		{"U32", []byte{1, 2, 3, 4, 7}, func(r *wire.Reader) bool { return r.U32() == 0x01020304 }, 1},
		{"U32 all", []byte{255, 255, 255, 255}, func(r *wire.Reader) bool { return r.U32() == math.MaxUint32 }, 0},
		{"U64", []byte{1, 2, 3, 4, 5, 6, 7, 8, 7}, func(r *wire.Reader) bool { return r.U64() == 0x0102030405060708 }, 1},
		{"U64 all", bytes.Repeat([]byte{255}, 8), func(r *wire.Reader) bool { return r.U64() == math.MaxUint64 }, 0},
		{"Flag true", []byte{1, 7}, func(r *wire.Reader) bool { return r.Flag() }, 1},
		{"Flag false", []byte{0}, func(r *wire.Reader) bool { return !r.Flag() }, 0},
		{"Plain", []byte{5, 6, 7}, func(r *wire.Reader) bool { return bytes.Equal(r.Plain(2), []byte{5, 6}) }, 1},
		{"Plain all", []byte{5, 6}, func(r *wire.Reader) bool { return bytes.Equal(r.Plain(2), []byte{5, 6}) }, 0},
		{"Plain 0", []byte{5}, func(r *wire.Reader) bool { return len(r.Plain(0)) == 0 }, 1},
		{"Plain 0 at the end", nil, func(r *wire.Reader) bool { return len(r.Plain(0)) == 0 }, 0},
		{"String", []byte{0, 2, 'a', 'b', 7}, func(r *wire.Reader) bool { return string(r.String(9)) == "ab" }, 1},
		{"String of most", []byte{0, 2, 'a', 'b'}, func(r *wire.Reader) bool { return string(r.String(2)) == "ab" }, 0},
		{"String of none", []byte{0, 0}, func(r *wire.Reader) bool { return len(r.String(0)) == 0 }, 0},
		{"String MaxBytes", ones(api.MaxBytes), func(r *wire.Reader) bool { return bytes.Equal(r.String(math.MaxInt), most) }, 0},
		{"Count", []byte{0, 3, 7}, func(r *wire.Reader) bool { return r.Count(9) == 3 }, 1},
		{"Count of most", []byte{0, 3}, func(r *wire.Reader) bool { return r.Count(3) == 3 }, 0},
		{"Count 0", []byte{0, 0}, func(r *wire.Reader) bool { return r.Count(0) == 0 }, 0},
		{"Count MaxCount", []byte{16, 0}, func(r *wire.Reader) bool { return r.Count(math.MaxInt) == api.MaxCount }, 0},
	}
}

func wrongTakes() []take {
	var l []take
	add := func(name string, b []byte, do func(r *wire.Reader) bool) {
		l = append(l, take{name, b, do, len(b)})
	}
	add("U8 of none", nil, func(r *wire.Reader) bool { return r.U8() == 0 })
	add("U16 of none", nil, func(r *wire.Reader) bool { return r.U16() == 0 })
	add("U16 of 1", []byte{1}, func(r *wire.Reader) bool { return r.U16() == 0 })
	add("U32 of 3", []byte{1, 2, 3}, func(r *wire.Reader) bool { return r.U32() == 0 })
	add("U64 of 7", []byte{1, 2, 3, 4, 5, 6, 7}, func(r *wire.Reader) bool { return r.U64() == 0 })
	add("Flag of none", nil, func(r *wire.Reader) bool { return !r.Flag() })
	add("Flag 2", []byte{2, 0}, func(r *wire.Reader) bool { return !r.Flag() })
	add("Flag 255", []byte{255}, func(r *wire.Reader) bool { return !r.Flag() })
	for _, n := range []int{-1, 4, math.MinInt, math.MaxInt} {
		add("Plain of another number", []byte{1, 2, 3}, func(r *wire.Reader) bool { return len(r.Plain(n)) == 0 })
	}
	add("String of none", nil, func(r *wire.Reader) bool { return len(r.String(9)) == 0 })
	add("String of 1", []byte{0}, func(r *wire.Reader) bool { return len(r.String(9)) == 0 })
	add("String cut short", []byte{0, 3, 1, 2}, func(r *wire.Reader) bool { return len(r.String(9)) == 0 })
	for _, most := range []int{2, 0, -1, math.MinInt} {
		add("String of more than most", []byte{0, 3, 1, 2, 3}, func(r *wire.Reader) bool { return len(r.String(most)) == 0 })
	}
	add("String of none, most -1", []byte{0, 0}, func(r *wire.Reader) bool { return len(r.String(-1)) == 0 })
	for _, n := range []int{api.MaxBytes + 1, 65535} {
		add("String of more than MaxBytes", ones(n), func(r *wire.Reader) bool { return len(r.String(math.MaxInt)) == 0 })
	}
	add("Count of none", nil, func(r *wire.Reader) bool { return r.Count(9) == 0 })
	add("Count of 1", []byte{0}, func(r *wire.Reader) bool { return r.Count(9) == 0 })
	for _, most := range []int{2, 0, -1, math.MinInt} {
		add("Count of more than most", []byte{0, 3}, func(r *wire.Reader) bool { return r.Count(most) == 0 })
	}
	add("Count 0, most -1", []byte{0, 0}, func(r *wire.Reader) bool { return r.Count(-1) == 0 })
	add("Count MaxCount+1", []byte{16, 1}, func(r *wire.Reader) bool { return r.Count(math.MaxInt) == 0 })
	add("Count 65535", []byte{255, 255}, func(r *wire.Reader) bool { return r.Count(65535) == 0 })
	return l
}

func TestP12TakesEachField(t *testing.T) {
	for _, c := range rightTakes() {
		t.Run(c.name, func(t *testing.T) {
			r := wire.New(c.b)
			wantReader(t, r, len(c.b), false)
			if !c.do(r) {
				t.Error("another answer")
			}
			wantReader(t, r, c.left, false)
		})
	}
}

func TestP12OneBehindTheOther(t *testing.T) {
	var all []byte
	for _, c := range rightTakes() {
		all = append(all, c.b[:len(c.b)-c.left]...)
	}
	r := wire.New(all)
	for _, c := range rightTakes() {
		before := r.Left()
		if !c.do(r) || r.Fails() || before-r.Left() != len(c.b)-c.left {
			t.Error(c.name, before, r.Left())
		}
	}
	wantReader(t, r, 0, false)
}

// What fails takes nothing, and nothing that would be right is taken later.
func TestP12Fails(t *testing.T) {
	for _, c := range wrongTakes() {
		t.Run(c.name, func(t *testing.T) {
			ahead := []byte{0, 0, 0, 0}
			r := wire.New(append(ahead, c.b...))
			r.U32()
			if !c.do(r) {
				t.Error("another answer than none")
			}
			wantReader(t, r, len(c.b), true)
			if !allAnswerZero(r) {
				t.Error("takes something later")
			}
			wantReader(t, r, len(c.b), true)
		})
	}
}

func TestP12StaysFailed(t *testing.T) {
	for _, c := range rightTakes() {
		r := wire.New(c.b)
		r.Plain(-1)
		if !allAnswerZero(r) {
			t.Error(c.name, "takes something")
		}
		wantReader(t, r, len(c.b), true)
	}
}

func TestP12NilReader(t *testing.T) {
	var r *wire.Reader
	wantReader(t, r, 0, true)
	for _, n := range []int{-1, math.MinInt, math.MaxInt} {
		if len(r.Plain(n)) != 0 || len(r.String(n)) != 0 || r.Count(n) != 0 {
			t.Error("takes", n)
		}
	}
	if !allAnswerZero(r) {
		t.Error("takes something")
	}
	wantReader(t, r, 0, true)
}

func TestP12NoBytes(t *testing.T) {
	wantReader(t, wire.New(nil), 0, false)
	wantReader(t, wire.New([]byte{}), 0, false)
	wantReader(t, new(wire.Reader), 0, false)
}

func TestP12KeepsNothingHandedIn(t *testing.T) {
	room := []byte{0, 1, 9, 8, 7, 7}
	r := wire.New(room[:4])
	clear(room)
	if s, b := r.String(5), r.Plain(1); !bytes.Equal(s, []byte{9}) || !bytes.Equal(b, []byte{8}) || !r.Done() {
		t.Error(s, b)
	}
}

func TestP12AnswersNewMemory(t *testing.T) {
	b := []byte{0, 2, 1, 2, 3, 4, 5, 6}
	r := wire.New(b)
	s := r.String(2)
	p := r.Plain(2)
	for _, l := range [][]byte{s, p} {
		clear(l)
		clear(l[len(l):cap(l)])
	}
	if r.U16() != 0x0506 || !bytes.Equal(b, []byte{0, 2, 1, 2, 3, 4, 5, 6}) {
		t.Error("an answer shares memory:", b)
	}
}

func TestP12ReadersAreApart(t *testing.T) {
	b := []byte{1, 2, 3}
	one, two := wire.New(b), wire.New(b)
	copied := *one
	one.U16()
	two.Plain(4)
	wantReader(t, one, 1, false)
	wantReader(t, two, 3, true)
	if copied.U8() != 1 || one.U8() != 3 || copied.U8() != 2 {
		t.Error("a copy hangs on the reader")
	}
}
