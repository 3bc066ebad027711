package chain_test

import (
	"bytes"
	"math"
	"slices"
	"testing"

	"rolodex/api"
	"rolodex/chain"
)

// roomy answers a copy of l in a list with spare room, each value in spare room of its own; and that
// list with all of its room.
func roomy(l []chain.Version) ([]chain.Version, []chain.Version) {
	room := make([]chain.Version, len(l)+3)
	for i, v := range cloned(l) {
		room[i] = v
		room[i].Value = append(make([]byte, 0, 100), v.Value...)
	}
	for i := len(l); i < len(room); i++ {
		room[i] = chain.Version{Number: 77, Value: []byte("room")}
	}
	return room[:len(l)], room
}

// spoil writes over a list, its values, and the spare room of both.
func spoil(l []chain.Version) {
	l = l[:cap(l)]
	for i := range l {
		v := l[i].Value
		v = v[:cap(v)]
		for j := range v {
			v[j] = 170
		}
		l[i] = chain.Version{Number: -9}
	}
}

func spoilBytes(b []byte) {
	b = b[:cap(b)]
	for i := range b {
		b[i] = 170
	}
}

// wantUnspoilt holds a list with spare room to what it was.
func wantUnspoilt(t *testing.T, name string, room, was []chain.Version) {
	t.Helper()
	if !same(room[:len(was)], was) {
		t.Error(name, ": what was handed in is changed")
	}
	for _, v := range room[:len(was)] {
		if spare := v.Value[len(v.Value):cap(v.Value)]; !bytes.Equal(spare, make([]byte, len(spare))) {
			t.Error(name, ": the spare room of a value is changed")
		}
	}
	for _, v := range room[len(was):] {
		if v.Number != 77 || string(v.Value) != "room" {
			t.Error(name, ": the spare room is changed")
		}
	}
}

func TestP141ArgumentsStayAsTheyAre(t *testing.T) {
	for n := 1; n <= 3; n++ {
		l, room := roomy(alice()[:n])
		label, value := append(make([]byte, 0, 50), "alice"...), append(make([]byte, 0, 50), "value"...)
		chain.Grow(aliceSeed(), label, l, lastEpoch, value)
		wantUnspoilt(t, "Grow", room, alice()[:n])
		chain.Grow(aliceSeed(), label, l, 0, value)
		wantUnspoilt(t, "Grow with an error", room, alice()[:n])
		chain.Upto(l, 2)
		chain.Upto(l, lastEpoch)
		wantUnspoilt(t, "Upto", room, alice()[:n])
		chain.Formed(label, l)
		chain.Check(label, l, aliceCommitments()[n-1])
		wantUnspoilt(t, "Check", room, alice()[:n])
		chain.Text(label, l[n-1])
		chain.Commit(label, l[n-1])
		chain.Key(label)
		chain.Salt(aliceSeed(), label, n)
		wantUnspoilt(t, "Commit", room, alice()[:n])
		if string(label[:50]) != "alice"+string(make([]byte, 45)) || string(value[:50]) != "value"+string(make([]byte, 45)) {
			t.Error("a label or a value is changed:", label[:50], value[:50])
		}
	}
}

// What is answered is new memory: what was handed in may be written over, and what was answered
// too.
func TestP141AnswersAreNewMemory(t *testing.T) {
	for n := range 4 {
		want, _ := grownOf(aliceSeed(), []byte("alice"), alice()[:n], lastEpoch, []byte("value"))
		l, _ := roomy(alice()[:n])
		label, value := []byte("alice"), []byte("value")
		x, e := chain.Grow(aliceSeed(), label, l, lastEpoch, value)
		y, f := chain.Grow(aliceSeed(), label, l, lastEpoch, value)
		spoil(l)
		spoilBytes(label)
		spoilBytes(value)
		if e != api.OK || f != api.OK || !same(x, want) || !same(y, want) {
			t.Error("Grow keeps what it was handed:", x)
		}
		spoil(x)
		if !same(y, want) {
			t.Error("two answers of Grow share memory:", y)
		}
		l, room := roomy(alice()[:n])
		x, y = chain.Upto(l, lastEpoch), chain.Upto(l, lastEpoch)
		spoil(x)
		wantUnspoilt(t, "what Upto answered is written over", room, alice()[:n])
		spoil(l)
		if !same(y, alice()[:n]) {
			t.Error("Upto keeps what it was handed:", y)
		}
	}
}

// No two values of one answer share memory, though they did when they were handed in.
func TestP141ValuesOfAnAnswerShareNothing(t *testing.T) {
	label, value := []byte("alice"), []byte{1, 2, 3, 4}
	l := ofEpochs(label, 1, 2, 3)
	for i := range l {
		l[i].Value = value[:i+1]
	}
	l = linked(label, l)
	for i := range l {
		l[i].Value = value[:i+1]
	}
	x, e := chain.Grow(aliceSeed(), label, l, 4, value)
	if e != api.OK || len(x) != 4 {
		t.Fatal(x, e)
	}
	for _, answer := range [][]chain.Version{x, chain.Upto(l, 3)} {
		for i := range answer {
			spoilBytes(answer[i].Value)
			for j := i + 1; j < len(answer); j++ {
				if !bytes.Equal(answer[j].Value, []byte{1, 2, 3, 4}[:j+1]) {
					t.Fatal("the values at", i, "and", j, "share memory")
				}
			}
		}
	}
	if !slices.Equal(value, []byte{1, 2, 3, 4}) {
		t.Error("an answer shares memory with what was handed in:", value)
	}
}

func TestP141TextIsNewMemory(t *testing.T) {
	label, v := []byte("alice"), chain.Version{Number: 1, Epoch: 2, Value: []byte("value")}
	want := textOf(label, v)
	one, two := chain.Text(label, v), chain.Text(label, v)
	spoilBytes(one)
	if string(label) != "alice" || string(v.Value) != "value" || !bytes.Equal(two, want) {
		t.Error("a text shares memory:", label, v.Value, two)
	}
	spoilBytes(label)
	spoilBytes(v.Value)
	if !bytes.Equal(two, want) {
		t.Error("a text keeps what it was handed:", two)
	}
}

// Each call ends, and answers as it should, whatever it is handed.
func TestP141OfAnything(t *testing.T) {
	numbers := []int{math.MinInt, -1 << 32, -1, 0, 1, 2, lastEpoch, 1 << 31, 1 << 32, math.MaxInt}
	var lists [][]chain.Version
	lists = append(lists, nil, []chain.Version{{}}, alice(), ofEpochs(nil, 1, 2), ofEpochs(counted(40), 1, 2))
	for _, n := range numbers {
		lists = append(lists, []chain.Version{{Number: n, Epoch: n, Value: counted(70)}}, []chain.Version{{Number: 1, Epoch: n}})
		lists = append(lists, append(alice()[:2], chain.Version{Number: n, Epoch: -n}), append([]chain.Version{{Number: n}}, alice()...))
	}
	for _, label := range [][]byte{nil, {}, []byte("alice"), counted(32), counted(33), counted(40)} {
		for i, l := range lists {
			is := isChain(label, l)
			if chain.Formed(label, l) != is || chain.Check(label, l, api.Hash{}) {
				t.Error("the list", i, "of", label)
			}
			for _, n := range numbers {
				x, e := chain.Grow(api.Hash{}, label, l, n, nil)
				if want, wantE := grownOf(api.Hash{}, label, l, n, nil); e != wantE || !same(x, want) {
					t.Error("Grow of the list", i, "of", label, "by", n, ":", x, e)
				}
				if x := chain.Upto(l, n); !same(x, l[:uptoOf(l, n)]) {
					t.Error("the list", i, "up to", n, ":", x)
				}
			}
		}
	}
}
