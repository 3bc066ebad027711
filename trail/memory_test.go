package trail_test

import (
	"fmt"
	"slices"
	"testing"

	"rolodex/api"
	"rolodex/trail"
)

const roomAtTheEnd = 6

// roomy answers a copy of l with spare room, and all of that room.
func roomy(l []api.Hash) ([]api.Hash, []api.Hash) {
	room := slices.Grow(slices.Clone(l), roomAtTheEnd)[:len(l)+roomAtTheEnd]
	for i := len(l); i < len(room); i++ {
		room[i] = countedHash(200)
	}
	return room[:len(l)], room
}

// spoil writes over a list, its spare room too.
func spoil(l []api.Hash) {
	l = l[:cap(l)]
	for i := range l {
		l[i] = countedHash(50)
	}
}

// wantUnspoilt holds a list with spare room to what it was.
func wantUnspoilt(t *testing.T, name string, room, was []api.Hash) {
	t.Helper()
	if !slices.Equal(room[:len(was)], was) {
		t.Error(name, ": what was handed in is changed")
	}
	for _, h := range room[len(was):] {
		if h != countedHash(200) {
			t.Error(name, ": the spare room is changed")
		}
	}
}

func TestP161ListsStayAsTheyAre(t *testing.T) {
	for n := range 36 {
		list := plain(n)
		l, room := roomy(list)
		for i := -1; i <= n+1; i++ {
			trail.Entry(l, i)
			wantUnspoilt(t, fmt.Sprint("entry ", i, " of ", n), room, list)
			trail.Growth(l, i)
			wantUnspoilt(t, fmt.Sprint("the first ", i, " of ", n), room, list)
		}
	}
}

// roomyTrail answers a copy of x with spare room on both sides, and all of that room.
func roomyTrail(x trail.Trail) (trail.Trail, trail.Trail) {
	var own, room trail.Trail
	own.Ahead, room.Ahead = roomy(x.Ahead)
	own.Behind, room.Behind = roomy(x.Behind)
	return own, room
}

// Both lists of a trail stay as they are, also where one stands ahead of the other one in one array.
func TestP161TrailsStayAsTheyAre(t *testing.T) {
	for n := range 36 {
		list := plain(n)
		for i := range n + 1 {
			was, _ := growthOf(list, i)
			own, room := roomyTrail(was)
			trail.IsGrowth(own, i, n, rootOf(list[:i]), rootOf(list))
			trail.IsGrowth(own, i, n, rootOf(list[:i]), api.Hash{})
			trail.IsGrowth(own, i, n+1, api.Hash{}, api.Hash{})
			wantUnspoilt(t, "IsGrowth, ahead", room.Ahead, was.Ahead)
			wantUnspoilt(t, "IsGrowth, behind", room.Behind, was.Behind)
			both := slices.Concat(was.Ahead, was.Behind)
			l, all := roomy(both)
			cut := len(was.Ahead)
			one := trail.Trail{Ahead: l[:cut], Behind: l[cut:]}
			wantGrowth(t, "in one array", one, i, n, rootOf(list[:i]), rootOf(list), true)
			wantUnspoilt(t, "IsGrowth, in one array", all, both)
			if i == n {
				continue
			}
			was, _ = entryOf(list, i)
			own, room = roomyTrail(was)
			trail.IsEntry(own, i, n, list[i], rootOf(list))
			trail.IsEntry(own, i, n, api.Hash{}, rootOf(list))
			trail.IsEntry(own, i, n+1, list[i], rootOf(list))
			wantUnspoilt(t, "IsEntry, ahead", room.Ahead, was.Ahead)
			wantUnspoilt(t, "IsEntry, behind", room.Behind, was.Behind)
			both = slices.Concat(was.Ahead, was.Behind)
			l, all = roomy(both)
			cut = len(was.Ahead)
			one = trail.Trail{Ahead: l[:cut], Behind: l[cut:]}
			wantEntry(t, "in one array", one, i, n, list[i], rootOf(list), true)
			wantUnspoilt(t, "IsEntry, in one array", all, both)
		}
	}
}

// What is answered is new memory: what was handed in may be written over, and what was answered
// too; and no two lists of one answer share any.
func TestP161AnswersAreNewMemory(t *testing.T) {
	for n := range 36 {
		for i := range n + 1 {
			want, e := growthOf(plain(n), i)
			wantNewMemory(t, fmt.Sprint("the first ", i, " of ", n), trail.Growth, plain(n), i, want, e)
			want, e = entryOf(plain(n), i)
			wantNewMemory(t, fmt.Sprint("entry ", i, " of ", n), trail.Entry, plain(n), i, want, e)
		}
	}
}

// wantNewMemory holds a call's answers to share nothing, neither with what was handed in nor among
// one another.
func wantNewMemory(t *testing.T, name string, call func([]api.Hash, int) (trail.Trail, api.Errno), list []api.Hash, i int, want trail.Trail, e api.Errno) {
	t.Helper()
	l, room := roomy(list)
	x, f := call(l, i)
	y, g := call(l, i)
	if f != e || g != e || !same(x, want) || !same(y, want) {
		t.Error(name, ":", x, y, f, g)
	}
	spoil(x.Ahead)
	if !slices.Equal(x.Behind, want.Behind) {
		t.Error(name, ": the two lists of one answer share memory")
	}
	spoil(x.Behind)
	wantUnspoilt(t, name+", what was answered is written over", room, list)
	spoil(l)
	if !same(y, want) {
		t.Error(name, ": it keeps what it was handed, or shares it between two answers")
	}
	spoil(y.Behind)
	if !slices.Equal(y.Ahead, want.Ahead) {
		t.Error(name, ": the two lists of one answer share memory")
	}
}
