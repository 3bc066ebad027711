package vault_test

import (
	"bytes"
	"math/rand"
	"slices"
	"strings"
	"testing"

	"rolodex/api"
	"rolodex/device"
	"rolodex/vault"
)

func TestP101AppendAndFlush(t *testing.T) {
	for active := range 2 {
		d := deviceOf(t, 21, 4, valueOf(byte(active), 3, 0x01020303))
		v := wantRecords(t, d)
		records := []string{"hi", "", full + full + "z", full}
		var pages [][]byte
		for _, r := range records {
			mustAppend(t, v, r)
			pages = append(pages, logPages(0x01020304, uint32(len(pages)+1), r)...)
			wantRoom(t, v, 9-len(pages), 9)
			if d.Waits() != len(pages) {
				t.Fatal("waits:", d.Waits(), "of", len(pages))
			}
			wantPages(t, d, 2+9*active, pages...)
		}
		want(t, "Flush", v.Flush(), api.OK)
		if d.Waits() != 0 {
			t.Fatal("behind a Flush there waits", d.Waits())
		}
		d.Restart(nil)
		wantPages(t, d, 2+9*active, pages...)
		wantNoughts(t, d, 2+9*(1-active), 11+9*(1-active))
		wantNoughts(t, d, 20, 21)
		wantRecords(t, d, records...)
	}
}

func TestP101AppendIsRefused(t *testing.T) {
	d := newDevice(t, 9)
	v := wantRecords(t, d)
	mustAppend(t, v, "a")
	for _, isDown := range []bool{false, true} {
		d.SetFuse(0)
		if isDown {
			down(t, d)
		}
		for _, n := range []int{6001, 6002, 8192, 65536} {
			want(t, "Append", v.Append(make([]byte, n)), api.ErrLong)
		}
		for _, n := range []int{221, 331, 6000} {
			want(t, "Append", v.Append(make([]byte, n)), api.ErrFull)
		}
		if d.Waits() != 1 || d.Down() != isDown {
			t.Fatal("what was refused was begun:", d.Waits(), d.Down())
		}
		wantRoom(t, v, 2, 3)
	}
	d.Restart([]int{128})
	mustAppend(t, v, full+"b")
	want(t, "Flush", v.Flush(), api.OK)
	wantRoom(t, v, 0, 3)
	want(t, "Append", v.Append(nil), api.ErrFull)
	want(t, "Append", v.Append(make([]byte, 6001)), api.ErrLong)
	wantRecords(t, d, "a", full+"b")
}

// The power goes with each of a record's pages in turn: the vault is over, also behind the restart.
func TestP101AppendIsLost(t *testing.T) {
	for fuse := range 4 {
		d := newDevice(t, 12)
		v := wantRecords(t, d)
		mustAppend(t, v, "a")
		want(t, "Flush", v.Flush(), api.OK)
		d.SetFuse(fuse)
		e := v.Append([]byte(full + full + "b"))
		if fuse == 3 {
			want(t, "Append", e, api.OK)
			want(t, "Flush", v.Flush(), api.ErrLost)
			wantOver(t, v, 1, 5)
			continue
		}
		want(t, "Append", e, api.ErrLost)
		wantOver(t, v, 4, 5)
		d.Restart([]int{128, 128, 128})
		before := allPages(t, d)
		d.SetFuse(0)
		wantOver(t, v, 4, 5)
		if d.Waits() != 0 || d.Down() {
			t.Fatal("a vault that is over did something")
		}
		wantPages(t, d, 0, before...)
		d.SetFuse(-1)
		w := wantRecords(t, d, "a")
		wantOver(t, v, 4, 5)
		mustAppend(t, w, "c")
		wantRecords(t, d, "a", "c")
	}
}

func TestP101FlushIsLost(t *testing.T) {
	for fuse := range 3 {
		d := newDevice(t, 7)
		v := wantRecords(t, d)
		mustAppend(t, v, "a")
		d.SetFuse(fuse)
		for range fuse {
			want(t, "Flush", v.Flush(), api.OK)
		}
		want(t, "Flush", v.Flush(), api.ErrLost)
		wantOver(t, v, 1, 2)
		d.Restart([]int{128})
		wantOver(t, v, 1, 2)
		wantRecords(t, d, "a")
	}
}

// Each call that writes may be the one that is lost, and each the first one behind the restart.
func TestP102OverByEach(t *testing.T) {
	calls := []func(*vault.Vault) api.Errno{
		func(v *vault.Vault) api.Errno { return v.Append([]byte("b")) },
		func(v *vault.Vault) api.Errno { return v.Flush() },
		func(v *vault.Vault) api.Errno { return v.Replace(listOf([]string{"c"})) },
	}
	for lost, fuses := range []int{1, 1, 6} {
		for fuse := range fuses {
			for first := range calls {
				d := newDevice(t, 12)
				v := wantRecords(t, d)
				mustAppend(t, v, "a")
				want(t, "Flush", v.Flush(), api.OK)
				d.SetFuse(fuse)
				want(t, "what is lost", calls[lost](v), api.ErrLost)
				d.Restart(nil)
				before := allPages(t, d)
				want(t, "the first call behind it", calls[first](v), api.ErrLost)
				wantOver(t, v, 4, 5)
				if d.Waits() != 0 || d.Down() {
					t.Fatal("a vault that is over did something")
				}
				wantPages(t, d, 0, before...)
				wantRecords(t, d, "a")
			}
		}
	}
}

func TestP101VaultsAreApart(t *testing.T) {
	d, other := newDevice(t, 10), newDevice(t, 10)
	v, w := wantRecords(t, d), wantRecords(t, other)
	mustAppend(t, v, "a")
	mustAppend(t, w, "b", "c")
	mustReplace(t, w, "d")
	wantRoom(t, v, 3, 4)
	d.SetFuse(0)
	want(t, "Flush", v.Flush(), api.ErrLost)
	mustAppend(t, w, "e")
	want(t, "Flush", w.Flush(), api.OK)
	wantOver(t, v, 3, 4)
	wantRecords(t, other, "d", "e")
	d.Restart([]int{128})
	wantRecords(t, d, "a")
}

func TestP102NilVault(t *testing.T) {
	var v *vault.Vault
	wantOver(t, v, 0, 0)
	wantOver(t, v, 0, 0)
}

// A vault that Open didn't make has no device.
func TestP102ZeroVault(t *testing.T) {
	v := new(vault.Vault)
	wantOver(t, v, 0, 0)
	wantOver(t, v, 0, 0)
}

func TestP102Examples(t *testing.T) {
	d := newDevice(t, 8)
	v := wantRecords(t, d)
	mustAppend(t, v, "a")
	want(t, "Flush", v.Flush(), api.OK)
	mustReplace(t, v, "b", "c")
	d.Restart(nil)
	wantRecords(t, d, "b", "c")
}

// Page by page: areas take turns, what is active isn't written, and of the other area only what the
// records take.
func TestP102Bytes(t *testing.T) {
	d := newDevice(t, 13)
	nines := bytes.Repeat([]byte{9}, 128)
	put(t, d, 12, nines)
	v := wantRecords(t, d)
	mustAppend(t, v, "a", "b", full+"c")
	mustReplace(t, v, full+"d", "", "e")
	zero := slices.Concat(logOf(1, "a", "b", full+"c"), [][]byte{make([]byte, 128)})
	one := logOf(2, full+"d", "", "e")
	wantPages(t, d, 0, slotPage(2, valueOf(0, 1, 2)), slotPage(3, valueOf(1, 2, 2)))
	wantPages(t, d, 2, zero...)
	wantPages(t, d, 7, one...)
	wantNoughts(t, d, 11, 12)
	wantRoom(t, v, 1, 5)
	if d.Waits() != 0 {
		t.Fatal("behind a Replace there waits", d.Waits())
	}
	mustAppend(t, v, "f")
	one = append(one, logPages(2, 5, "f")...)
	wantPages(t, d, 7, one...)

	mustReplace(t, v, "g")
	wantPages(t, d, 0, slotPage(4, valueOf(1, 2, 3)), slotPage(5, valueOf(0, 3, 3)))
	wantPages(t, d, 2, logOf(3, "g")...)
	wantPages(t, d, 3, zero[1:]...)
	wantPages(t, d, 7, one...)
	wantRoom(t, v, 4, 5)
	wantRecords(t, d, "g")
	wantPages(t, d, 0, slotPage(6, valueOf(0, 3, 4)), slotPage(5, valueOf(0, 3, 3)))

	v = wantRecords(t, d, "g")
	mustReplace(t, v)
	wantPages(t, d, 0, slotPage(8, valueOf(0, 3, 6)), slotPage(9, valueOf(1, 6, 6)))
	wantPages(t, d, 2, logOf(3, "g")...)
	wantPages(t, d, 7, one...)
	wantPages(t, d, 12, nines)
	wantRoom(t, v, 5, 5)
	mustAppend(t, v, "h")
	wantPages(t, d, 7, logOf(6, "h")...)
	wantPages(t, d, 8, one[1:]...)
	wantRecords(t, d, "h")
}

// A Replace is as many operations as its records have pages, and five. It ends with the one with
// which the power goes, and the vault is over.
func TestP102IsLost(t *testing.T) {
	for _, records := range [][]string{nil, {""}, {"b", "c"}, {full + "b"}, {"b", full + "c", "d"}} {
		pages := len(logOf(1, records...))
		for fuse := range pages + 7 {
			d, twin := newDevice(t, 12), newDevice(t, 12)
			v := wantRecords(t, d)
			p, _, _ := openPlain(twin)
			mustAppend(t, v, "a")
			p.append("a")
			d.SetFuse(fuse)
			twin.SetFuse(fuse)
			e := v.Replace(listOf(records))
			want(t, "Replace by hand", p.replace(records), e)
			wantLike(t, d, twin)
			if fuse >= pages+5 {
				want(t, "Replace", e, api.OK)
				wantRoom(t, v, 5-pages, 5)
				continue
			}
			want(t, "Replace", e, api.ErrLost)
			wantOver(t, v, 4, 5)
			if fuse == pages+4 {
				d.Restart([]int{128})
				twin.Restart([]int{128})
				wantLike(t, d, twin)
				wantOver(t, v, 4, 5)
				wantRecords(t, d, records...)
				continue
			}
			d.Restart(slices.Repeat([]int{128}, 8))
			twin.Restart(slices.Repeat([]int{128}, 8))
			wantLike(t, d, twin)
			wantOver(t, v, 4, 5)
			wantRecords(t, d, "a")
		}
	}
}

// wantLike holds two devices together; of those that are down just how many writes wait.
func wantLike(t *testing.T, d, twin *device.Device) {
	t.Helper()
	if d.Down() != twin.Down() || d.Waits() != twin.Waits() {
		t.Fatal("Down, Waits:", d.Down(), d.Waits(), "want", twin.Down(), twin.Waits())
	}
	for i := range d.Pages() {
		b, e := d.Read(i)
		c, f := twin.Read(i)
		if e != f || !bytes.Equal(b, c) {
			t.Fatal("page", i, ":", b, e, "want", c, f)
		}
	}
}

// Refused records change nothing, also on a device that is down: too long is asked ahead of too
// many.
func TestP102IsRefused(t *testing.T) {
	d := newDevice(t, 12)
	v := wantRecords(t, d)
	mustAppend(t, v, "a")
	before := allPages(t, d)
	for _, isDown := range []bool{false, true} {
		d.SetFuse(0)
		if isDown {
			down(t, d)
		}
		for _, lengths := range [][]int{
			{6001}, {0, 6001}, {6001, 0}, {6000, 6000, 6001}, {1, 1, 1, 1, 1, 1, 1, 1 << 20},
		} {
			want(t, "Replace", v.Replace(ofLengths(lengths)), api.ErrLong)
		}
		for _, lengths := range [][]int{
			{551}, {6000}, {0, 0, 0, 0, 0, 0}, {1, 1, 1, 1, 1, 1}, {441, 0}, {0, 441}, {111, 111, 111}, {440, 1, 1}, {6000, 6000},
		} {
			want(t, "Replace", v.Replace(ofLengths(lengths)), api.ErrFull)
		}
		if d.Waits() != 1 || d.Down() != isDown {
			t.Fatal("what was refused was begun:", d.Waits(), d.Down())
		}
		wantRoom(t, v, 4, 5)
	}
	d.Restart([]int{128})
	wantPages(t, d, 0, before...)
	mustAppend(t, v, "b")
	want(t, "Flush", v.Flush(), api.OK)
	wantRecords(t, d, "a", "b")
}

func ofLengths(lengths []int) [][]byte {
	var list [][]byte
	for _, n := range lengths {
		list = append(list, make([]byte, n))
	}
	return list
}

// Records that take an area to its last page, whatever there is in the one that is active.
func TestP102JustFull(t *testing.T) {
	for _, lengths := range [][]int{{550}, {0, 0, 0, 0, 0}, {110, 110, 110, 110, 110}, {440, 1}, {111, 0, 111}, {1, 331}, {221, 220}} {
		d := newDevice(t, 13)
		v := wantRecords(t, d)
		for range 3 {
			for v.Room() > 0 {
				mustAppend(t, v, "a")
			}
			list := ofLengths(lengths)
			want(t, "Replace", v.Replace(list), api.OK)
			wantRoom(t, v, 0, 5)
			want(t, "Append", v.Append(nil), api.ErrFull)
			var records []string
			for _, b := range list {
				records = append(records, string(b))
			}
			wantRecords(t, d, records...)
			v = wantRecords(t, d, records...)
		}
	}
	d := newDevice(t, 2+2*110)
	v := wantRecords(t, d)
	mustReplace(t, v, strings.Repeat("x", 6000), strings.Repeat("y", 6000))
	wantRoom(t, v, 0, 110)
	wantRecords(t, d, strings.Repeat("x", 6000), strings.Repeat("y", 6000))
}

func TestP102Generations(t *testing.T) {
	d := deviceOf(t, 8, 1, valueOf(0, 1, greatest-4))
	v := wantRecords(t, d)
	mustAppend(t, v, "a")
	mustReplace(t, v, "b")
	wantPages(t, d, 5, logOf(greatest-2, "b")...)
	mustReplace(t, v, "c")
	wantPages(t, d, 0, slotPage(6, valueOf(0, greatest-1, greatest-1)))
	before := allPages(t, d)
	d.SetFuse(0)
	for range 2 {
		want(t, "Replace", v.Replace(listOf([]string{"d"})), api.ErrFull)
		want(t, "Replace", v.Replace(nil), api.ErrFull)
		want(t, "Replace", v.Replace(ofLengths([]int{6001})), api.ErrLong)
	}
	d.SetFuse(-1)
	wantPages(t, d, 0, before...)
	mustAppend(t, v, "e")
	v = wantRecords(t, d, "c", "e")
	want(t, "Replace", v.Replace(nil), api.ErrFull)
	mustAppend(t, v, "f")
	want(t, "Flush", v.Flush(), api.OK)
	wantPages(t, d, 2, slices.Concat(logOf(greatest-1, "c", "e"), logPages(greatest, 3, "f"))...)
}

// Of a slot that has but one serial left the second saving is refused: the records stay, and the
// vault isn't over.
func TestP102SlotFull(t *testing.T) {
	d := deviceOf(t, 10, 1<<64-3, valueOf(0, 1, 6))
	v := wantRecords(t, d)
	mustAppend(t, v, "a")
	want(t, "Replace", v.Replace(listOf([]string{"b", "c"})), api.ErrFull)
	wantPages(t, d, 0, slotPage(1<<64-2, valueOf(0, 1, 7)), slotPage(1<<64-1, valueOf(0, 1, 8)))
	wantPages(t, d, 2, logOf(7, "a")...)
	wantPages(t, d, 6, logOf(8, "b", "c")...)
	wantRoom(t, v, 3, 4)
	mustAppend(t, v, "d")
	want(t, "Flush", v.Flush(), api.OK)
	wantPages(t, d, 2, logOf(7, "a", "d")...)
	before := allPages(t, d)
	d.SetFuse(0)
	want(t, "Replace", v.Replace(nil), api.ErrFull)
	d.SetFuse(-1)
	wantPages(t, d, 0, before...)
	wantRoom(t, v, 2, 4)
}

// What stands in the other area of the generation that comes, or a greater one, is ahead of what is
// appended there, as the chapter's words have it; no vault brings that about. What doesn't fit
// behind it ends the Replace, whose generation isn't taken again.
func TestP102TheOtherAreaAsItIs(t *testing.T) {
	d := deviceOf(t, 10, 1, valueOf(0, 1, 6))
	put(t, d, 6, logOf(9, "x", "y")...)
	v := wantRecords(t, d)
	mustAppend(t, v, "a")
	want(t, "Replace", v.Replace(listOf([]string{"b", "c", "d"})), api.ErrFull)
	wantPages(t, d, 0, slotPage(2, valueOf(0, 1, 7)), slotPage(3, valueOf(0, 1, 8)))
	wantRoom(t, v, 3, 4)
	mustReplace(t, v, "e")
	wantPages(t, d, 0, slotPage(4, valueOf(0, 1, 9)), slotPage(5, valueOf(1, 9, 9)))
	wantPages(t, d, 6, logOf(9, "x", "y", "e")...)
	wantRoom(t, v, 1, 4)
	mustReplace(t, v, "f")
	wantPages(t, d, 2, logOf(10, "f")...)
	mustReplace(t, v, "g")
	wantPages(t, d, 6, logOf(11, "g")...)
	wantRecords(t, d, "g")
}

// What was appended and not flushed goes with the others, and doesn't come back.
func TestP102WhatWaited(t *testing.T) {
	d := newDevice(t, 10)
	v := wantRecords(t, d)
	mustAppend(t, v, "a", "b")
	mustReplace(t, v, "c")
	mustAppend(t, v, "d")
	mustReplace(t, v, "e")
	d.Restart([]int{128, 128, 128})
	v = wantRecords(t, d, "e")
	mustAppend(t, v, "f")
	d.Restart(nil)
	wantRecords(t, d, "e")
}

func TestP102KeepsNothingHandedIn(t *testing.T) {
	d := newDevice(t, 20)
	v := wantRecords(t, d)
	room := bytes.Repeat([]byte{5}, 700)
	list := [][]byte{room[10:13:13], room[20:20], room[100:300], nil, room[400:510]}
	spare := slices.Clone(list)
	want(t, "Replace", v.Replace(list[:4]), api.OK)
	for i, b := range spare {
		if len(list[i]) != len(b) || len(b) > 0 && &list[i][0] != &b[0] {
			t.Error("the list is changed at", i)
		}
	}
	if !bytes.Equal(room, bytes.Repeat([]byte{5}, 700)) {
		t.Error("what was handed in is changed")
	}
	mustAppend(t, v, "x")
	if !bytes.Equal(room, bytes.Repeat([]byte{5}, 700)) {
		t.Error("what was handed in is changed later")
	}
	clear(room)
	clear(list)
	wantRecords(t, d, strings.Repeat("\x05", 3), "", strings.Repeat("\x05", 200), "", "x")

	one := []byte("abcdef")
	w := wantRecords(t, d, strings.Repeat("\x05", 3), "", strings.Repeat("\x05", 200), "", "x")
	want(t, "Append", w.Append(one[:3]), api.OK)
	if string(one) != "abcdef" {
		t.Error("what was appended is changed")
	}
	clear(one)
	wantRecords(t, d, strings.Repeat("\x05", 3), "", strings.Repeat("\x05", 200), "", "x", "abc")
}

// anyRecords has a list of records that mostly has room in an area.
func anyRecords(chance *rand.Rand, space int) []string {
	var records []string
	for range chance.Intn(min(space, 6) + 1) {
		records = append(records, anyRecord(chance))
	}
	return records
}

func anyRecord(chance *rand.Rand) string {
	n := chance.Intn(30) + 110*max(0, chance.Intn(8)-4)
	if chance.Intn(200) == 0 {
		n = 5999 + chance.Intn(4)
	}
	b := make([]byte, n)
	chance.Read(b)
	return string(b)
}

// anyList keeps of most writes all, or nothing.
func anyList(chance *rand.Rand) []int {
	list := make([]int, chance.Intn(20))
	for i := range list {
		switch chance.Intn(4) {
		case 0:
			list[i] = chance.Intn(131) - 1
		case 1:
		default:
			list[i] = 128
		}
	}
	return list
}

// A vault and a plain one do the same at any steps, operation by operation: they answer the same,
// and their devices have the same.
func TestP102LikeThePlainOne(t *testing.T) {
	chance := rand.New(rand.NewSource(102))
	rounds := 2000
	if testing.Short() {
		rounds = 200
	}
	for range rounds {
		pages := 4 + chance.Intn(30)
		d, twin := newDevice(t, pages), newDevice(t, pages)
		if g := chance.Uint32() >> chance.Intn(32); g > 0 && chance.Intn(2) == 0 {
			b := slotPage(2, valueOf(byte(chance.Intn(2)), 1+uint32(chance.Intn(int(min(g, 1<<30)))), g))
			put(t, d, 0, b)
			put(t, twin, 0, b)
		}
		for range 12 {
			v, x, e := vault.Open(d)
			p, records, f := openPlain(twin)
			want(t, "Open", e, f)
			wantTexts(t, x, records...)
			wantLike(t, d, twin)
			if e == api.OK {
				stepsOfBoth(t, chance, v, p, d.SetFuse)
			}
			wantLike(t, d, twin)
			list := anyList(chance)
			d.Restart(list)
			twin.Restart(list)
		}
	}
}

// stepsOfBoth does some steps with both; setFuse is the vault's device's.
func stepsOfBoth(t *testing.T, chance *rand.Rand, v *vault.Vault, p *plain, setFuse func(int)) {
	t.Helper()
	fuse := chance.Intn(40) - 1
	setFuse(fuse)
	p.d.SetFuse(fuse)
	for range chance.Intn(12) {
		switch chance.Intn(5) {
		case 0:
			want(t, "Flush", v.Flush(), p.flush())
		case 1:
			records := anyRecords(chance, p.space)
			want(t, "Replace", v.Replace(listOf(records)), p.replace(records))
		default:
			r := anyRecord(chance)
			want(t, "Append", v.Append([]byte(r)), p.append(r))
		}
		wantRoom(t, v, p.space-p.used, p.space)
	}
}
