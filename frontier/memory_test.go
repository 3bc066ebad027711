package frontier_test

import (
	"fmt"
	"slices"
	"testing"

	"rolodex/api"
	"rolodex/frontier"
)

const roomAtTheEnd = 6

// roomy answers a copy of l with spare room, and all of that room.
func roomy(l []api.Hash) ([]api.Hash, []api.Hash) {
	room := slices.Grow(slices.Clone(l), roomAtTheEnd)[:len(l)+roomAtTheEnd]
	for i := len(l); i < len(room); i++ {
		room[i] = countedHash(200)
	}
	return room[:len(l)], room
}

// spoil writes over a list, its spare room too.
func spoil(l []api.Hash) {
	l = l[:cap(l)]
	for i := range l {
		l[i] = countedHash(50)
	}
}

// wantUnspoilt holds a list with spare room to what it was.
func wantUnspoilt(t *testing.T, name string, room, was []api.Hash) {
	t.Helper()
	if !slices.Equal(room[:len(was)], was) {
		t.Error(name, ": what was handed in is changed")
	}
	for _, h := range room[len(was):] {
		if h != countedHash(200) {
			t.Error(name, ": the spare room is changed")
		}
	}
}

func TestP151ArgumentsStayAsTheyAre(t *testing.T) {
	for from := range 9 {
		for n := range 20 {
			list := plain(n)
			l, room := roomy(list)
			frontier.Of(from, l)
			frontier.Of(-1, l)
			wantUnspoilt(t, "Of", room, list)
			a, b := rangeOf(from, list), rangeOf(from+n, list)
			x, y := a, b
			var roomOfX, roomOfY []api.Hash
			x.Hashes, roomOfX = roomy(a.Hashes)
			y.Hashes, roomOfY = roomy(b.Hashes)
			frontier.Join(x, y)
			frontier.Join(y, x)
			frontier.Formed(x)
			frontier.Root(x)
			frontier.Root(y)
			wantUnspoilt(t, "the first one of two", roomOfX, a.Hashes)
			wantUnspoilt(t, "the other one of two", roomOfY, b.Hashes)
		}
	}
	room := append(make([]byte, 0, 20), "entry"...)
	frontier.Leaf(room)
	if string(room[:20]) != "entry"+string(make([]byte, 15)) {
		t.Error("an entry, or its spare room, is changed:", room[:20])
	}
}

// What is answered is new memory: what was handed in may be written over, and what was answered
// too.
func TestP151AnswersAreNewMemory(t *testing.T) {
	for from := range 9 {
		for n := range 20 {
			list := plain(n)
			l, room := roomy(list)
			x, _ := frontier.Of(from, l)
			y, _ := frontier.Of(from, l)
			spoil(x.Hashes)
			wantUnspoilt(t, "what Of answered is written over", room, list)
			spoil(l)
			if !same(y, rangeOf(from, list)) {
				t.Error("from", from, "hashes:", n, "Of keeps what it was handed, or shares it between two answers")
			}
		}
	}
	list := plain(30)
	for from := range 9 {
		for mid := from; mid < 20; mid++ {
			for _, to := range []int{mid, mid + 1, mid + 3, 30} {
				wantNewJoin(t, rangeOf(from, list[from:mid]), rangeOf(mid, list[mid:to]), rangeOf(from, list[from:to]))
			}
		}
	}
}

// wantNewJoin holds what is joined of a and b to share nothing with them, nor with another answer.
func wantNewJoin(t *testing.T, a, b, want frontier.Range) {
	t.Helper()
	name := fmt.Sprint(a.From, " to ", a.To, " to ", b.To)
	p, q := a, b
	var roomOfP, roomOfQ []api.Hash
	p.Hashes, roomOfP = roomy(a.Hashes)
	q.Hashes, roomOfQ = roomy(b.Hashes)
	x, e := frontier.Join(p, q)
	y, f := frontier.Join(p, q)
	if e != api.OK || f != api.OK || !same(x, want) || !same(y, want) {
		t.Error(name, ":", x, e, y, f)
	}
	spoil(x.Hashes)
	wantUnspoilt(t, name+", what is joined is written over", roomOfP, a.Hashes)
	wantUnspoilt(t, name+", what is joined is written over", roomOfQ, b.Hashes)
	spoil(p.Hashes)
	spoil(q.Hashes)
	if !same(y, want) {
		t.Error(name, ": Join keeps what it was handed, or shares it between two answers")
	}
}

func TestP151SegmentsAreNewMemory(t *testing.T) {
	x, y := frontier.Segments(3, 100), frontier.Segments(3, 100)
	for i := range x[:cap(x)] {
		x[:cap(x)][i] = -1
	}
	if !slices.Equal(y, segmentsOf(3, 100)) || !slices.Equal(frontier.Segments(3, 100), segmentsOf(3, 100)) {
		t.Error("two answers share memory:", y)
	}
}
