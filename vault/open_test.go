package vault_test

import (
	"bytes"
	"strings"
	"testing"

	"rolodex/api"
	"rolodex/device"
	"rolodex/slot"
	"rolodex/vault"
)

func TestP101NoDevice(t *testing.T) {
	wantNoVault(t, nil, api.ErrArg)
	wantNoVault(t, new(device.Device), api.ErrArg)
	for n := range 4 {
		wantUntouched(t, newDevice(t, n), api.ErrArg)
		d := newDevice(t, n)
		down(t, d)
		wantNoVault(t, d, api.ErrArg)
	}
	wantUntouched(t, deviceOf(t, 3, 1, valueOf(0, 1, 1)), api.ErrArg)
	wantUntouched(t, deviceOf(t, 3, 1<<64-1, valueOf(9, 0, 0)), api.ErrArg)
}

// A device of any number of pages: two areas side by side, and of an odd number one page more.
func TestP101Areas(t *testing.T) {
	for _, n := range []int{4, 5, 6, 7, 8, 9, 19, 20, 255, 256, 4095, 4096} {
		d := newDevice(t, n)
		v := wantRecords(t, d)
		if d.Waits() != 0 {
			t.Fatal("behind Open there waits", d.Waits())
		}
		wantPages(t, d, 1, slotPage(1, valueOf(0, 1, 1)))
		wantNoughts(t, d, 0, 1)
		wantNoughts(t, d, 2, n)
		space := v.Space()
		for range space {
			mustAppend(t, v, "a")
		}
		wantRoom(t, v, 0, space)
		want(t, "Append", v.Append(nil), api.ErrFull)
		wantPages(t, d, 2, logOf(1, strings.Split(strings.Repeat("a", space), "")...)...)
		wantNoughts(t, d, 2+space, n)
		var records []string
		for range space {
			records = append(records, "b")
		}
		mustReplace(t, v, records...)
		wantPages(t, d, 2, logPages(1, 1, "a")...)
		wantPages(t, d, 2+space, logOf(2, records...)...)
		wantNoughts(t, d, 2+2*space, n)
		wantRecords(t, d, records...)
	}
}

func TestP101Down(t *testing.T) {
	for _, d := range []*device.Device{newDevice(t, 4), newDevice(t, 4096), deviceOf(t, 4, 1, nil), deviceOf(t, 4, 1<<64-1, valueOf(0, 1, 1))} {
		pages := allPages(t, d)
		down(t, d)
		wantNoVault(t, d, api.ErrLost)
		d.Restart(nil)
		wantPages(t, d, 0, pages...)
	}
}

// A value of another number of bytes than nine, none too, isn't the lack of one.
func TestP101ValuesOfOtherLengths(t *testing.T) {
	for n := range 111 {
		value := append(valueOf(0, 1, 1), make([]byte, 110)...)[:n]
		for _, serial := range []uint64{1, 2, 1<<64 - 2, 1<<64 - 1} {
			if n != 9 {
				wantUntouched(t, deviceOf(t, 6, serial, value), api.ErrForm)
			}
		}
	}
	d := newDevice(t, 6)
	slot.Save(d, 0, nil)
	wantUntouched(t, d, api.ErrForm)
	wantUntouched(t, deviceOf(t, 6, 1, append([]byte{0}, valueOf(0, 1, 1)...)), api.ErrForm)
}

func TestP101WrongValues(t *testing.T) {
	var wrong [][]byte
	for active := 2; active < 256; active++ {
		wrong = append(wrong, valueOf(byte(active), 1, 1))
	}
	for active := range byte(2) {
		for _, g := range [][2]uint32{
			{0, 0}, {0, 1}, {0, 1 << 24}, {0, greatest - 1}, {0, greatest},
			{1, greatest}, {greatest - 1, greatest}, {greatest, greatest},
			{1, 0}, {2, 1}, {256, 255}, {1 << 24, 1<<24 - 1}, {1<<24 + 1, 1 << 24}, {greatest, 0}, {greatest, 1}, {greatest, greatest - 1},
		} {
			wrong = append(wrong, valueOf(active, g[0], g[1]))
		}
	}
	for _, w := range wrong {
		for _, serial := range []uint64{1, 6, 1<<64 - 2, 1<<64 - 1} {
			d := deviceOf(t, 7, serial, w)
			put(t, d, 2, logOf(greatest, "a", "b")...)
			wantUntouched(t, d, api.ErrForm)
		}
		d := deviceOf(t, 7, 3, w)
		put(t, d, 0, slotPage(2, valueOf(0, 1, 1)))
		wantUntouched(t, d, api.ErrForm)
		down(t, d)
		wantNoVault(t, d, api.ErrLost)
	}
}

// A slot neither of whose pages is right has no value.
func TestP101NoValue(t *testing.T) {
	torn := slotPage(5, valueOf(1, 7, 9))
	torn[127] = 4
	odd := slotPage(4, valueOf(1, 7, 9))
	for _, b := range [][]byte{torn, odd, bytes.Repeat([]byte{255}, 128)} {
		d := newDevice(t, 8)
		put(t, d, 1, b)
		put(t, d, 2, logOf(6, "a", full+"b")...)
		v := wantRecords(t, d, "a", full+"b")
		wantPages(t, d, 1, slotPage(1, valueOf(0, 1, 1)))
		want(t, "Append", v.Append(nil), api.ErrFull)
		wantRecords(t, d, "a", full+"b")
		wantPages(t, d, 0, slotPage(2, valueOf(0, 1, 2)))
	}
}

// The greater serial's value is the one that holds, and the other page is written.
func TestP101RightValues(t *testing.T) {
	for _, g := range [][2]uint32{{1, 1}, {1, 2}, {2, 2}, {1, 255}, {255, 255}, {1, 256}, {256, 65535}, {0x01020304, 0x05060708}, {1, 1<<32 - 2}, {1<<32 - 2, 1<<32 - 2}, {1<<32 - 3, 1<<32 - 2}} {
		for active := range 2 {
			for _, serial := range []uint64{1, 2, 255, 256, 1 << 40, 1<<64 - 3, 1<<64 - 2} {
				d := newDevice(t, 11)
				put(t, d, int(serial%2), slotPage(serial, valueOf(byte(active), g[0], g[1])))
				if serial > 1 {
					put(t, d, int((serial-1)%2), slotPage(serial-1, valueOf(byte(1-active), 3, 4)))
				}
				put(t, d, 2+4*active, logOf(g[0], "a", full+"b")...)
				put(t, d, 2+4*(1-active), logOf(g[1], "c", "d")...)
				before := allPages(t, d)
				v := wantRecords(t, d, "a", full+"b")
				before[(serial+1)%2] = slotPage(serial+1, valueOf(byte(active), g[0], g[1]+1))
				wantPages(t, d, 0, before...)
				mustAppend(t, v, "e")
				before[2+4*active+3] = logPages(g[1]+1, 4, "e")[0]
				wantPages(t, d, 0, before...)
			}
		}
	}
}

// Of a lesser generation than the least one nothing is a record.
func TestP101Least(t *testing.T) {
	for least := uint32(1); least < 9; least++ {
		for active := range 2 {
			d := deviceOf(t, 12, 1, valueOf(byte(active), least, 9))
			put(t, d, 2+5*active, logOf(4, "a", full+"b", "c")...)
			if least <= 4 {
				wantRecords(t, d, "a", full+"b", "c")
				continue
			}
			v := wantRecords(t, d)
			mustAppend(t, v, "d")
			wantPages(t, d, 2+5*active, logPages(10, 1, "d")...)
			wantRecords(t, d, "d")
		}
	}
}

func TestP101SlotFull(t *testing.T) {
	wantUntouched(t, deviceOf(t, 6, 1<<64-1, valueOf(0, 1, 1)), api.ErrFull)
	wantUntouched(t, deviceOf(t, 6, 1<<64-1, valueOf(1, 5, greatest-1)), api.ErrFull)
	d := deviceOf(t, 6, 1<<64-2, valueOf(1, 5, 7))
	wantRecords(t, d)
	wantUntouched(t, d, api.ErrFull)
}

// The last generation may be opened, but not opened again.
func TestP101LastGeneration(t *testing.T) {
	for _, least := range []uint32{1, 9, greatest - 2, greatest - 1} {
		d := deviceOf(t, 6, 1, valueOf(0, least, greatest-1))
		v := wantRecords(t, d)
		mustAppend(t, v, "a")
		want(t, "Flush", v.Flush(), api.OK)
		wantPages(t, d, 2, logOf(greatest, "a")...)
		wantUntouched(t, d, api.ErrForm)
	}
}

// Open is one write and one flush.
func TestP101Operations(t *testing.T) {
	for fuse := range 5 {
		d := newDevice(t, 8)
		v := wantRecords(t, d)
		mustAppend(t, v, "a")
		d.SetFuse(fuse)
		if fuse < 2 {
			wantNoVault(t, d, api.ErrLost)
			if d.Waits() != 1+fuse || !d.Down() {
				t.Fatal("behind a fuse of", fuse, ":", d.Waits(), d.Down())
			}
			d.Restart([]int{128, 127})
			wantRecords(t, d, "a")
			wantPages(t, d, 0, slotPage(2, valueOf(0, 1, 2)))
			continue
		}
		wantRecords(t, d, "a")
		if d.Waits() != 0 || d.Down() {
			t.Fatal("behind Open:", d.Waits(), d.Down())
		}
		for range fuse - 2 {
			want(t, "Flush", d.Flush(), api.OK)
		}
		want(t, "Flush", d.Flush(), api.ErrLost)
	}
}

func TestP101OpenAnswersNewMemory(t *testing.T) {
	d := newDevice(t, 10)
	v := wantRecords(t, d)
	mustAppend(t, v, "abc", full+"d")
	_, x, _ := vault.Open(d)
	_, y, _ := vault.Open(d)
	for _, r := range x {
		clear(r[:cap(r)])
	}
	clear(x[:cap(x)])
	wantTexts(t, y, "abc", full+"d")
	w := wantRecords(t, d, "abc", full+"d")
	mustReplace(t, w, "e")
	wantTexts(t, y, "abc", full+"d")
}
