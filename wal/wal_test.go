package wal_test

import (
	"bytes"
	"math"
	"strings"
	"testing"

	"rolodex/api"
	"rolodex/wal"
)

func TestP91Examples(t *testing.T) {
	if wal.Parts(111) != 2 {
		t.Error("Parts of 111:", wal.Parts(111))
	}
}

func TestP91Parts(t *testing.T) {
	for n, parts := range map[int]int{
		-1: 0, -2: 0, -109: 0, -110: 0, -111: 0, math.MinInt: 0, math.MinInt + 1: 0, -1 << 32: 0,
		0: 1, 1: 1, 109: 1, 110: 1, 111: 2, 219: 2, 220: 2, 221: 3, 330: 3, 331: 4,
		5940: 54, 5941: 55, 6000: 55, 6050: 55, 6051: 56, 110 << 32: 1 << 32, 110<<32 + 1: 1<<32 + 1,
		math.MaxInt: 83848836698679781, math.MaxInt - 7: 83848836698679780,
	} {
		if wal.Parts(n) != parts {
			t.Error("Parts of", n, ":", wal.Parts(n), "want", parts)
		}
	}
}

// Byte by byte: where each field stands.
func TestP91Bytes(t *testing.T) {
	d := newDevice(t, 8)
	nines := bytes.Repeat([]byte{9}, 128)
	for i := range 8 {
		put(t, d, i, nines)
	}
	l := wantRecords(t, d, 1, 6, 1, 0x01020304)
	mustAppend(t, l, "hi", "", full+full+"z")
	hi := make([]byte, 128)
	copy(hi, "\x01\x02\x03\x04\x00\x00\x00\x01\x03\x02hi")
	copy(hi[120:], "\x01\x02\x03\x04\x00\x00\x00\x01")
	none := make([]byte, 128)
	copy(none, "\x01\x02\x03\x04\x00\x00\x00\x02\x03\x00")
	copy(none[120:], "\x01\x02\x03\x04\x00\x00\x00\x02")
	one := []byte("\x01\x02\x03\x04\x00\x00\x00\x03\x01\x6e" + full + "\x01\x02\x03\x04\x00\x00\x00\x03")
	two := []byte("\x01\x02\x03\x04\x00\x00\x00\x04\x00\x6e" + full + "\x01\x02\x03\x04\x00\x00\x00\x04")
	three := make([]byte, 128)
	copy(three, "\x01\x02\x03\x04\x00\x00\x00\x05\x02\x01z")
	copy(three[120:], "\x01\x02\x03\x04\x00\x00\x00\x05")
	wantPages(t, d, 0, nines, hi, none, one, two, three, nines, nines)
	wantRoom(t, l, 1)
}

// Each length, on a log that has just the room for it; the generation is that of the opening.
func TestP91EachLength(t *testing.T) {
	step := 1
	if testing.Short() {
		step = 37
	}
	for n := 0; n <= 6000; n += step {
		record := strings.Repeat(full, 55)[n%110:][:min(n, 5940)] + strings.Repeat("!", max(n-5940, 0))
		parts, g := wal.Parts(n), uint32(n)<<12+7
		d := newDevice(t, parts+2)
		l := wantRecords(t, d, 1, parts, 1, g)
		wantRoom(t, l, parts)
		want(t, "Append", l.Append([]byte(record)), api.OK)
		wantRoom(t, l, 0)
		if d.Waits() != parts {
			t.Fatal("waits:", d.Waits(), "of", parts)
		}
		wantPages(t, d, 0, make([]byte, 128))
		wantPages(t, d, 1, pagesOf(g, 1, record)...)
		wantPages(t, d, 1+parts, make([]byte, 128))
		want(t, "Flush", l.Flush(), api.OK)
		if d.Waits() != 0 {
			t.Fatal("behind a Flush there waits", d.Waits())
		}
		d.Restart(nil)
		wantRecords(t, d, 1, parts, 1, g, record)
	}
}

// Records of all bytes, such as look like pages too.
func TestP91AnyBytes(t *testing.T) {
	d := newDevice(t, 300)
	l := wantRecords(t, d, 0, 300, 5, 5)
	var records []string
	for x := range 256 {
		records = append(records, strings.Repeat(string([]byte{byte(x)}), 1+x%110))
	}
	records = append(records, string(make([]byte, 110)), string(pageOf(9, 1, 3, "a")), string(make([]byte, 300)))
	mustAppend(t, l, records...)
	wantRecords(t, d, 0, 300, 5, 6, records...)
	wantRecords(t, d, 0, 300, 6, 6)
}

// A log of the greatest device, with the greatest generation: places of two bytes.
func TestP91Places(t *testing.T) {
	d := newDevice(t, 4096)
	l := wantRecords(t, d, 0, 4096, 1, math.MaxUint32)
	var records []string
	for i := range 2048 {
		records = append(records, full+string(rune('a'+i%26)))
	}
	mustAppend(t, l, records...)
	want(t, "Append", l.Append(nil), api.ErrFull)
	wantRoom(t, l, 0)
	for _, at := range []int{0, 254, 256, 510, 4094} {
		wantPages(t, d, at, pagesOf(math.MaxUint32, uint32(at+1), records[at/2])...)
	}
	wantRecords(t, d, 0, 4096, math.MaxUint32, math.MaxUint32, records...)
	wantRecords(t, d, 0, 513, 1, math.MaxUint32, records[:256]...)
	wantRecords(t, d, 2, 4094, 1, math.MaxUint32)
}

// A log goes on behind its last whole record, over what stands there of others.
func TestP91GoesOnBehind(t *testing.T) {
	pages := append(pagesOf(1, 1, "a"), pagesOf(1, 2, full+full+"b")...)
	pages = append(pages, pagesOf(1, 5, "c")...)
	pages[3] = changed(pages[3], 10, 1)
	pages[3] = changed(pages[3], 127, 1)
	d := deviceOf(t, pages...)
	l := wantRecords(t, d, 0, 5, 1, 2, "a")
	mustAppend(t, l, "d")
	wantRoom(t, l, 3)
	wantPages(t, d, 0, pages[0], pageOf(2, 2, 3, "d"), pages[2], pages[3], pages[4])
	l = wantRecords(t, d, 0, 5, 1, 3, "a", "d")
	mustAppend(t, l, full+"e")
	wantRoom(t, l, 1)
	wantPages(t, d, 2, pageOf(3, 3, 1, full), pageOf(3, 4, 2, "e"), pages[4])
	l = wantRecords(t, d, 0, 5, 1, 3, "a", "d", full+"e")
	mustAppend(t, l, "f")
	wantRecords(t, d, 0, 5, 1, 3, "a", "d", full+"e", "f")
}

// What is appended with a lesser generation than stands ahead isn't right there.
func TestP91ALesserGeneration(t *testing.T) {
	d := deviceOf(t, pageOf(5, 1, 3, "a"), make([]byte, 128))
	l := wantRecords(t, d, 0, 2, 1, 4, "a")
	mustAppend(t, l, "b")
	wantPages(t, d, 1, pageOf(4, 2, 3, "b"))
	wantRecords(t, d, 0, 2, 1, 6, "a")
	l = wantRecords(t, d, 0, 2, 1, 5, "a")
	mustAppend(t, l, "c")
	wantRecords(t, d, 0, 2, 1, 5, "a", "c")
}

func TestP91TooLong(t *testing.T) {
	for _, n := range []int{6001, 6002, 6050, 6051, 8192, 65536, 1 << 20} {
		for _, count := range []int{0, 1, 56, 100} {
			d := newDevice(t, 100)
			l := wantRecords(t, d, 0, count, 1, 1)
			d.SetFuse(0)
			want(t, "Append", l.Append(make([]byte, n)), api.ErrLong)
			wantRoom(t, l, count)
			if d.Waits() != 0 || d.Down() {
				t.Fatal("what was refused was begun:", d.Waits(), d.Down())
			}
			down(t, d)
			want(t, "Append", l.Append(make([]byte, n)), api.ErrLong)
			d.Restart(nil)
			want(t, "Flush", l.Flush(), api.OK)
		}
	}
}

// A record for which there is no room changes nothing, also on a device that is down; a shorter one
// fits behind it.
func TestP91Full(t *testing.T) {
	for room := range 6 {
		d := newDevice(t, 8)
		l := wantRecords(t, d, 1, 6, 1, 1)
		for range 6 - room {
			mustAppend(t, l, "a")
		}
		wantRoom(t, l, room)
		d.SetFuse(0)
		for _, n := range []int{110*room + 1, 110*room + 110, 110*room + 111, 6000} {
			want(t, "Append", l.Append(make([]byte, n)), api.ErrFull)
		}
		wantRoom(t, l, room)
		if d.Waits() != 6-room || d.Down() {
			t.Fatal("what was refused was begun:", d.Waits(), d.Down())
		}
		down(t, d)
		want(t, "Append", l.Append(make([]byte, 110*room+1)), api.ErrFull)
		d.Restart(nil)
		if room == 0 {
			want(t, "Append", l.Append(nil), api.ErrFull)
			continue
		}
		want(t, "Append", l.Append(make([]byte, 110*room)), api.OK)
		wantRoom(t, l, 0)
		want(t, "Append", l.Append(nil), api.ErrFull)
	}
}

// wantOver holds that a log is over, and goes on being so behind a restart.
func wantOver(t *testing.T, l *wal.Log, room int) {
	t.Helper()
	for _, n := range []int{0, 1, 111, 6000, 6001} {
		want(t, "Append of a log that is over", l.Append(make([]byte, n)), api.ErrLost)
	}
	want(t, "Flush of a log that is over", l.Flush(), api.ErrLost)
	wantRoom(t, l, room)
}

// A record of k parts takes k operations: the power goes with each of them in turn. The pages
// written ahead wait, and none else.
func TestP91AppendIsLost(t *testing.T) {
	for parts := 1; parts < 5; parts++ {
		for fuse := range parts + 1 {
			d := newDevice(t, 7)
			l := wantRecords(t, d, 1, 6, 1, 3)
			mustAppend(t, l, "a")
			want(t, "Flush", l.Flush(), api.OK)
			record := strings.Repeat(full, parts-1) + "b"
			d.SetFuse(fuse)
			e := l.Append([]byte(record))
			if fuse == parts {
				want(t, "Append", e, api.OK)
				wantRoom(t, l, 5-parts)
				want(t, "Flush", l.Flush(), api.ErrLost)
				wantOver(t, l, 5-parts)
				continue
			}
			want(t, "Append", e, api.ErrLost)
			if d.Waits() != fuse || !d.Down() {
				t.Fatal("fuse", fuse, ":", d.Waits(), d.Down())
			}
			wantOver(t, l, 5)
			d.Restart([]int{128, 128, 128, 128})
			wantOver(t, l, 5)
			if d.Waits() != 0 || d.Down() {
				t.Fatal("a log that is over did something")
			}
			wantPages(t, d, 2, pagesOf(3, 2, record)[:fuse]...)
			wantPages(t, d, 2+fuse, make([]byte, 128))
			l = wantRecords(t, d, 1, 6, 1, 4, "a")
			mustAppend(t, l, "c")
			wantRecords(t, d, 1, 6, 1, 5, "a", "c")
		}
	}
}

// A Flush is one operation, also if nothing waits.
func TestP91FlushIsLost(t *testing.T) {
	for fuse := range 4 {
		d := newDevice(t, 3)
		l := wantRecords(t, d, 0, 3, 1, 1)
		mustAppend(t, l, "a")
		d.SetFuse(fuse)
		for range fuse {
			want(t, "Flush", l.Flush(), api.OK)
		}
		want(t, "Flush", l.Flush(), api.ErrLost)
		wantOver(t, l, 2)
		d.Restart([]int{128})
		wantOver(t, l, 2)
		if fuse > 0 {
			wantRecords(t, d, 0, 3, 1, 2, "a")
		}
	}
}

// Each log is over for itself: by an ErrLost of its own, and none of another one's.
func TestP91OverForItself(t *testing.T) {
	d := newDevice(t, 6)
	one, two := wantRecords(t, d, 0, 3, 1, 1), wantRecords(t, d, 3, 3, 1, 1)
	mustAppend(t, two, "a")
	want(t, "Flush", two.Flush(), api.OK)
	d.SetFuse(0)
	want(t, "Append", one.Append(nil), api.ErrLost)
	d.Restart(nil)
	wantOver(t, one, 3)
	mustAppend(t, two, "b")
	want(t, "Flush", two.Flush(), api.OK)
	wantOver(t, one, 3)
	wantRecords(t, d, 3, 3, 1, 2, "a", "b")
}

func TestP91LogsAreApart(t *testing.T) {
	d, other := newDevice(t, 12), newDevice(t, 12)
	one, two, three := wantRecords(t, d, 0, 4, 1, 1), wantRecords(t, d, 4, 5, 7, 9), wantRecords(t, other, 4, 5, 7, 9)
	nines := bytes.Repeat([]byte{9}, 128)
	put(t, d, 9, nines, nines, nines)
	mustAppend(t, one, "a")
	mustAppend(t, two, full+"b")
	mustAppend(t, one, full+"c", "d")
	mustAppend(t, three, "x")
	mustAppend(t, two, "e", full+"f")
	want(t, "Append", one.Append(nil), api.ErrFull)
	want(t, "Append", two.Append(nil), api.ErrFull)
	wantRoom(t, three, 4)
	want(t, "Flush", two.Flush(), api.OK)
	if d.Waits() != 0 || other.Waits() != 1 {
		t.Error("what waits behind a Flush:", d.Waits(), other.Waits())
	}
	wantRecords(t, d, 0, 4, 1, 1, "a", full+"c", "d")
	wantRecords(t, d, 4, 5, 7, 9, full+"b", "e", full+"f")
	wantRecords(t, other, 4, 5, 7, 9, "x")
	wantPages(t, d, 9, nines, nines, nines)
}

func TestP91NilLog(t *testing.T) {
	var l *wal.Log
	for range 2 {
		wantOver(t, l, 0)
	}
}

// A log that Open didn't make has no pages, and no device.
func TestP91ZeroLog(t *testing.T) {
	l := new(wal.Log)
	wantRoom(t, l, 0)
	want(t, "Append", l.Append(nil), api.ErrFull)
	want(t, "Append", l.Append(make([]byte, 6001)), api.ErrLong)
	want(t, "Flush", l.Flush(), api.ErrLost)
	wantOver(t, l, 0)
}

func TestP91KeepsNothingHandedIn(t *testing.T) {
	d := newDevice(t, 9)
	l := wantRecords(t, d, 0, 9, 1, 1)
	room := bytes.Repeat([]byte{5}, 600)
	var records []string
	for _, n := range []int{0, 3, 110, 111, 300} {
		want(t, "Append", l.Append(room[10:10+n]), api.OK)
		if !bytes.Equal(room, bytes.Repeat([]byte{5}, 600)) {
			t.Error("what was appended is changed")
		}
		clear(room)
		records = append(records, strings.Repeat("\x05", n))
		wantRecords(t, d, 0, 9, 1, 1, records...)
		copy(room, bytes.Repeat([]byte{5}, 600))
	}
	want(t, "Append", l.Append(nil), api.OK)
	wantRecords(t, d, 0, 9, 1, 1, append(records, "")...)
}
