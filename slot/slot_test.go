package slot_test

import (
	"bytes"
	"math"
	"strings"
	"testing"

	"rolodex/api"
	"rolodex/device"
	"rolodex/slot"
)

// wrongPlaces are those where a device of n pages has no slot.
func wrongPlaces(n int) []int {
	return []int{n - 1, n, n + 1, 2 * n, -1, -2, -n - 1, 1 << 32, -1 << 32, math.MinInt, math.MinInt + 1, math.MaxInt, math.MaxInt - 1}
}

func TestP81Examples(t *testing.T) {
	d := newDevice(t, 2)
	wantSave(t, d, 0, "hi", 1)
	wantLoad(t, d, 0, 1, "hi")
}

func TestP81PagesOfNoughts(t *testing.T) {
	for _, n := range []int{2, 3, 4096} {
		d := newDevice(t, n)
		for at := range n - 1 {
			wantLoad(t, d, at, 0, "")
		}
	}
}

// Byte by byte: where each field stands, and that nothing is left of a longer value.
func TestP81Bytes(t *testing.T) {
	d := newDevice(t, 2)
	long := strings.Repeat("abcdefghij", 11)
	wantSave(t, d, 0, "hi", 1)
	one := make([]byte, 128)
	one[7], one[9], one[10], one[11], one[127] = 1, 2, 'h', 'i', 1
	wantPage(t, d, 0, make([]byte, 128))
	wantPage(t, d, 1, one)

	wantSave(t, d, 0, long, 2)
	two := []byte("\x00\x00\x00\x00\x00\x00\x00\x02\x00\x6e" + long + "\x00\x00\x00\x00\x00\x00\x00\x02")
	wantPage(t, d, 0, two)
	wantPage(t, d, 1, one)

	wantSave(t, d, 0, long, 3)
	two[7], two[127] = 3, 3
	wantPage(t, d, 1, two)

	wantSave(t, d, 0, "", 4)
	four := make([]byte, 128)
	four[7], four[127] = 4, 4
	wantPage(t, d, 0, four)
	wantPage(t, d, 1, two)
	wantLoad(t, d, 0, 4, "")
}

func TestP81EachLength(t *testing.T) {
	d := newDevice(t, 2)
	for n := range 111 {
		value := strings.Repeat(string(rune('A'+n%50)), n)
		serial := uint64(n + 1)
		wantSave(t, d, 0, value, serial)
		wantLoad(t, d, 0, serial, value)
		wantPage(t, d, (n+1)%2, pageOf(serial, value))
	}
	for _, n := range []int{111, 112, 120, 128, 255, 256, 8192, 8193, 65535, 65536, 65538} {
		wantNoSave(t, d, 0, make([]byte, n), api.ErrLong)
	}
	wantLoad(t, d, 0, 111, strings.Repeat("K", 110))
	if d.Waits() != 0 {
		t.Error("what was refused waits")
	}
}

// A value is any bytes, noughts and such as look like a serial too.
func TestP81AnyBytes(t *testing.T) {
	d := newDevice(t, 2)
	all := make([]byte, 110)
	for x := range 256 {
		for i := range all {
			all[i] = byte(x + i)
		}
		for _, v := range []string{string(all), string(all[:1]), strings.Repeat(string(all[:1]), 110)} {
			n, e := slot.Save(d, 0, []byte(v))
			if e != api.OK {
				t.Fatal(e)
			}
			wantLoad(t, d, 0, n, v)
		}
	}
	wantLoad(t, d, 0, 3*256, strings.Repeat("\xff", 110))
}

// A slot's pages are told apart by where they stand in the slot, not on the device; the other pages
// are left as they are.
func TestP81Places(t *testing.T) {
	for at := range 7 {
		d := newDevice(t, 8)
		rest := bytes.Repeat([]byte{9}, 128)
		for i := range 8 {
			if i != at && i != at+1 {
				put(t, d, i, rest)
			}
		}
		wantSave(t, d, at, "a", 1)
		wantPage(t, d, at, make([]byte, 128))
		wantSave(t, d, at, "b", 2)
		wantLoad(t, d, at, 2, "b")
		for i := range 8 {
			switch i {
			case at:
				wantPage(t, d, i, pageOf(2, "b"))
			case at + 1:
				wantPage(t, d, i, pageOf(1, "a"))
			default:
				wantPage(t, d, i, rest)
			}
		}
	}
}

func TestP81SlotsAreApart(t *testing.T) {
	d, other := newDevice(t, 6), newDevice(t, 6)
	for i := range 9 {
		for at := range 3 {
			if i%(at+1) == 0 {
				wantSave(t, d, 2*at, string(rune('a'+i+at)), uint64(i/(at+1)+1))
			}
		}
	}
	wantLoad(t, d, 0, 9, "i")
	wantLoad(t, d, 2, 5, "j")
	wantLoad(t, d, 4, 3, "i")
	wantLoad(t, other, 0, 0, "")
	wantSave(t, other, 2, "x", 1)
	wantLoad(t, d, 2, 5, "j")
}

// All that may not be right with one page, beside one that is right.
func TestP81WhatIsNotRight(t *testing.T) {
	for where, serial := range []uint64{1 << 40, 1<<40 + 1} {
		right := pageOf(serial, "new")
		wrong := [][]byte{
			make([]byte, 128),
			bytes.Repeat([]byte{255}, 128),
			pageOf(serial+1, "new"),
			pageOf(serial-1, "new"),
			pageOf(0, "new"),
			changed(right, 9, 3^111),
			changed(right, 9, 3^128),
			changed(right, 9, 3^255),
			changed(right, 8, 1),
			changed(right, 8, 128),
			changed(right, 8, 255),
		}
		for i := range 8 {
			for bit := range 8 {
				wrong = append(wrong, changed(right, i, 1<<bit), changed(right, 120+i, 1<<bit))
			}
		}
		for _, w := range wrong {
			old := [][]byte{pageOf(6, "old"), pageOf(7, "old")}
			old[where] = w
			wantLoad(t, pagesOf(t, old...), 0, uint64(7-where), "old")
			none := [][]byte{make([]byte, 128), make([]byte, 128)}
			none[where] = w
			wantLoad(t, pagesOf(t, none...), 0, 0, "")
			wantSave(t, pagesOf(t, old...), 0, "newer", uint64(8-where))
			wantSave(t, pagesOf(t, none...), 0, "newer", 1)
		}
	}
}

// Both serials and the number of bytes make a page right, and nothing that stands between them.
func TestP81WhatIsRight(t *testing.T) {
	for _, n := range []byte{0, 1, 50, 109, 110} {
		b := bytes.Repeat([]byte{200}, 128)
		copy(b, pageOf(4, "")[:8])
		copy(b[120:], pageOf(4, "")[:8])
		b[8], b[9] = 0, n
		wantLoad(t, pagesOf(t, b, make([]byte, 128)), 0, 4, strings.Repeat("\xc8", int(n)))
	}
}

func TestP81TheGreaterSerial(t *testing.T) {
	serials := []uint64{0, 1, 2, 3, 255, 256, 257, 65535, 65536, 1<<32 - 1, 1 << 32, 1<<32 + 1, 1<<63 - 1, 1 << 63, 1<<63 + 1, greatest - 1, greatest}
	for _, a := range serials {
		for _, b := range serials {
			one, two := pageOf(a, "at"), pageOf(b, "behind it")
			d := pagesOf(t, one, two)
			serial, value := modelLoad(one, two)
			wantLoad(t, d, 0, serial, value)
			if serial == greatest {
				wantNoSave(t, d, 0, []byte("next"), api.ErrFull)
				continue
			}
			wantSave(t, d, 0, "next", serial+1)
			wantLoad(t, d, 0, serial+1, "next")
			pages := [][]byte{one, two}
			pages[(serial+1)%2] = pageOf(serial+1, "next")
			wantPage(t, d, 0, pages[0])
			wantPage(t, d, 1, pages[1])
		}
	}
}

func TestP81Full(t *testing.T) {
	d := pagesOf(t, pageOf(greatest-1, "a"), pageOf(5, "b"))
	wantSave(t, d, 0, "c", greatest)
	wantLoad(t, d, 0, greatest, "c")
	for fuse := range 3 {
		d.SetFuse(fuse)
		wantNoSave(t, d, 0, []byte("d"), api.ErrFull)
		wantNoSave(t, d, 0, nil, api.ErrFull)
		wantNoSave(t, d, 0, make([]byte, 111), api.ErrLong)
		if d.Waits() != 0 || d.Down() {
			t.Error("what was refused was begun:", d.Waits(), d.Down())
		}
	}
	wantPage(t, d, 0, pageOf(greatest-1, "a"))
	wantPage(t, d, 1, pageOf(greatest, "c"))
	wantLoad(t, d, 0, greatest, "c")
}

func TestP81NoDevice(t *testing.T) {
	for _, at := range append(wrongPlaces(2), 0) {
		wantNoLoad(t, nil, at, api.ErrArg)
		wantNoSave(t, nil, at, []byte("a"), api.ErrArg)
		wantNoSave(t, nil, at, nil, api.ErrArg)
		wantNoSave(t, nil, at, make([]byte, 111), api.ErrArg)
	}
}

func TestP81NoSuchPages(t *testing.T) {
	devices := []*device.Device{new(device.Device), newDevice(t, 0), newDevice(t, 1), newDevice(t, 2), newDevice(t, 5)}
	for _, d := range devices {
		for _, at := range wrongPlaces(d.Pages()) {
			d.SetFuse(1)
			wantNoLoad(t, d, at, api.ErrRange)
			wantNoSave(t, d, at, []byte("a"), api.ErrRange)
			wantNoSave(t, d, at, make([]byte, 110), api.ErrRange)
			wantNoSave(t, d, at, make([]byte, 111), api.ErrLong)
			if d.Waits() != 0 || d.Down() {
				t.Error("what was refused was begun:", d.Waits(), d.Down())
			}
		}
		for i := range d.Pages() {
			wantPage(t, d, i, make([]byte, 128))
		}
	}
}

func TestP81Down(t *testing.T) {
	d := newDevice(t, 2)
	wantSave(t, d, 0, "a", 1)
	d.SetFuse(0)
	if e := d.Flush(); e != api.ErrLost {
		t.Fatal(e)
	}
	for _, at := range append(wrongPlaces(2), 0) {
		wantNoLoad(t, d, at, api.ErrLost)
		wantNoSave(t, d, at, []byte("b"), api.ErrLost)
		wantNoSave(t, d, at, make([]byte, 111), api.ErrLong)
	}
	d.Restart(nil)
	wantLoad(t, d, 0, 1, "a")
}

// A Save is one write and one flush, and a Load is neither.
func TestP81Operations(t *testing.T) {
	for fuse := range 5 {
		d := newDevice(t, 2)
		wantSave(t, d, 0, "a", 1)
		d.SetFuse(fuse)
		for range 5 {
			wantLoad(t, d, 0, 1, "a")
		}
		if fuse < 2 {
			wantNoSave(t, d, 0, []byte("b"), api.ErrLost)
			if d.Waits() != fuse || !d.Down() {
				t.Error("behind a fuse of", fuse, ":", d.Waits(), d.Down())
			}
			continue
		}
		wantSave(t, d, 0, "b", 2)
		wantLoad(t, d, 0, 2, "b")
		if d.Waits() != 0 || d.Down() {
			t.Error("behind a Save:", d.Waits(), d.Down())
		}
		for range fuse - 2 {
			if e := d.Flush(); e != api.OK {
				t.Error("a Save takes more than two operations:", e)
			}
		}
		wantNoSave(t, d, 0, []byte("c"), api.ErrLost)
	}
}

// What waits is read, as the device has it.
func TestP81WhatWaits(t *testing.T) {
	d := newDevice(t, 4)
	if e := d.Write(1, pageOf(7, "waits")); e != api.OK {
		t.Fatal(e)
	}
	wantLoad(t, d, 0, 7, "waits")
	if d.Waits() != 1 {
		t.Error("Load flushes")
	}
	wantSave(t, d, 2, "a", 1)
	if d.Waits() != 0 {
		t.Error("Save doesn't flush")
	}
	d.Restart(nil)
	wantLoad(t, d, 0, 7, "waits")
	wantLoad(t, d, 2, 1, "a")
}

func TestP81AnswersNewMemory(t *testing.T) {
	d := newDevice(t, 2)
	wantSave(t, d, 0, "abc", 1)
	_, v, _ := slot.Load(d, 0)
	_, w, _ := slot.Load(d, 0)
	clear(v[:cap(v)])
	if string(w) != "abc" {
		t.Error("two answers share memory")
	}
	wantLoad(t, d, 0, 1, "abc")
	wantSave(t, d, 0, "x", 2)
	wantSave(t, d, 0, "y", 3)
	if string(w) != "abc" {
		t.Error("an answer changes with its slot")
	}
}

func TestP81KeepsNothingHandedIn(t *testing.T) {
	d, room := newDevice(t, 2), bytes.Repeat([]byte{5}, 200)
	for i, n := range []int{0, 3, 109, 110} {
		if _, e := slot.Save(d, 0, room[10:10+n]); e != api.OK {
			t.Fatal(e)
		}
		if !bytes.Equal(room, bytes.Repeat([]byte{5}, 200)) {
			t.Error("what was saved is changed")
		}
		clear(room)
		wantLoad(t, d, 0, uint64(i+1), strings.Repeat("\x05", n))
		copy(room, bytes.Repeat([]byte{5}, 200))
	}
	wantSave(t, d, 0, "", 5)
	if n, e := slot.Save(d, 0, nil); n != 6 || e != api.OK {
		t.Error("Save of nil:", n, e)
	}
	wantLoad(t, d, 0, 6, "")
}
