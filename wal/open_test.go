package wal_test

import (
	"bytes"
	"math"
	"math/rand"
	"strings"
	"testing"

	"rolodex/api"
	"rolodex/device"
	"rolodex/wal"
)

var full = strings.Repeat("0123456789", 11)

// last is the bit of the kinds 2 and 3, which end a record.
const last = 2

func TestP91WrongArguments(t *testing.T) {
	wrong := [][2]int{
		{-1, 0}, {-1, 1}, {-1, 5}, {math.MinInt, 0}, {math.MinInt, 5}, {math.MinInt, math.MinInt},
		{0, -1}, {4, -4}, {5, -1}, {0, math.MinInt}, {4, math.MinInt},
		{0, 5}, {1, 4}, {3, 2}, {4, 1}, {0, 1 << 32}, {0, math.MaxInt}, {1, math.MaxInt}, {4, math.MaxInt},
		{5, 0}, {5, 1}, {6, 0}, {1 << 32, 0}, {math.MaxInt, 0}, {math.MaxInt, 1}, {math.MaxInt, math.MaxInt},
	}
	for _, lost := range []bool{false, true} {
		d := deviceOf(t, pagesOf(9, 1, strings.Repeat(full, 3)+"a")...)
		if lost {
			down(t, d)
		}
		for _, w := range wrong {
			wantNoLog(t, d, w[0], w[1], 1, 1, api.ErrArg)
			wantNoLog(t, nil, w[0], w[1], 1, 1, api.ErrArg)
			wantNoLog(t, new(device.Device), w[0]+5, w[1], 1, 1, api.ErrArg)
		}
		for _, g := range [][2]uint32{{0, 0}, {0, 1}, {0, math.MaxUint32}, {2, 1}, {1, 0}, {math.MaxUint32, 0}, {math.MaxUint32, math.MaxUint32 - 1}} {
			for count := range 5 {
				wantNoLog(t, d, 0, count, g[0], g[1], api.ErrArg)
			}
		}
		for from := range 5 {
			wantNoLog(t, nil, from, 0, 1, 1, api.ErrArg)
		}
		wantNoLog(t, nil, 0, 4, 1, 1, api.ErrArg)
	}
}

// Of no pages nothing is read: also of a device that is down, and behind its last page.
func TestP91NoPages(t *testing.T) {
	lost := newDevice(t, 4)
	down(t, lost)
	for _, d := range []*device.Device{newDevice(t, 4), lost} {
		for from := range 5 {
			l := wantRecords(t, d, from, 0, 1, 1)
			wantRoom(t, l, 0)
			want(t, "Append", l.Append(nil), api.ErrFull)
			want(t, "Append", l.Append(make([]byte, 6000)), api.ErrFull)
			want(t, "Append", l.Append(make([]byte, 6001)), api.ErrLong)
			if d == lost {
				want(t, "Flush", l.Flush(), api.ErrLost)
				want(t, "Append", l.Append(nil), api.ErrLost)
				continue
			}
			want(t, "Flush", l.Flush(), api.OK)
		}
	}
	for _, d := range []*device.Device{newDevice(t, 0), new(device.Device)} {
		wantRoom(t, wantRecords(t, d, 0, 0, 1, 1), 0)
		wantNoLog(t, d, 0, 1, 1, 1, api.ErrArg)
		wantNoLog(t, d, 1, 0, 1, 1, api.ErrArg)
	}
}

func TestP91Down(t *testing.T) {
	d := deviceOf(t, append(pagesOf(1, 1, "a"), make([]byte, 128))...)
	down(t, d)
	for from := range 2 {
		for count := 1; count <= 2-from; count++ {
			wantNoLog(t, d, from, count, 1, 1, api.ErrLost)
			wantNoLog(t, d, from, count, math.MaxUint32, math.MaxUint32, api.ErrLost)
		}
	}
	d.Restart(nil)
	wantRecords(t, d, 0, 2, 1, 1, "a")
}

// Open takes no operation, leaves what waits and what is there, and reads what waits.
func TestP91OpenWritesNothing(t *testing.T) {
	pages := append(pagesOf(1, 1, full+"a"), pageOf(2, 3, 1, full), make([]byte, 128))
	d := deviceOf(t, pages...)
	waits := pageOf(2, 4, 2, "b")
	want(t, "Write", d.Write(3, waits), api.OK)
	d.SetFuse(0)
	for range 3 {
		wantRecords(t, d, 0, 4, 1, 3, full+"a", full+"b")
		wantRecords(t, d, 0, 3, 1, 3, full+"a")
		wantRecords(t, d, 1, 3, 1, 3)
		wantNoLog(t, d, 0, 5, 1, 3, api.ErrArg)
		if d.Waits() != 1 || d.Down() {
			t.Fatal("Open did something:", d.Waits(), d.Down())
		}
	}
	wantPages(t, d, 0, append(pages[:3:3], waits)...)
	d.Restart(nil)
	wantRecords(t, d, 0, 4, 1, 3, full+"a")
	wantPages(t, d, 0, pages...)
}

// Each thing that may not be right with one page, at each place of a log of records that are right.
func TestP91WhatIsNotRight(t *testing.T) {
	records := []string{"a", full + full + "b", "", "c"}
	starts := []int{0, 1, 1, 1, 2, 3}
	var pages [][]byte
	for _, r := range records {
		pages = append(pages, pagesOf(258, uint32(len(pages)+1), r)...)
	}
	d := deviceOf(t, pages...)
	wantRecords(t, d, 0, 6, 1, 259, records...)
	for at, right := range pages {
		n := int(right[9])
		wrong := [][]byte{make([]byte, 128), bytes.Repeat([]byte{255}, 128), set(right, 9, 111), set(right, 9, 128), set(right, 9, 255)}
		for bit := range 8 {
			for i := range 8 {
				wrong = append(wrong, changed(right, i, 1<<bit), changed(right, 120+i, 1<<bit))
			}
			for i := 10 + n; i < 120; i++ {
				wrong = append(wrong, changed(right, i, 1<<bit))
			}
		}
		for kind := range 256 {
			if byte(kind)&^last != right[8]&^last || kind > 3 {
				wrong = append(wrong, set(right, 8, byte(kind)))
			}
		}
		for _, w := range wrong {
			put(t, d, at, w)
			wantRecords(t, d, 0, 6, 1, 259, records[:starts[at]]...)
		}
		put(t, d, at, right)
	}
	wantRecords(t, d, 0, 6, 1, 259, records...)
}

// A part that is made a record's last one, or is it no more, is right if it may be that: the record
// ends there, or goes on; and what stands behind it is looked at from there on.
func TestP91AnotherLastPart(t *testing.T) {
	pages := append(pagesOf(1, 1, full+full+full), pagesOf(1, 4, full)...)
	pages = append(pages, pagesOf(1, 5, full+"b")...)
	d := deviceOf(t, pages...)
	for at, records := range [][]string{
		{full},
		{full + full},
		nil,
		{full + full + full},
		{full + full + full, full, full},
		{full + full + full, full},
	} {
		put(t, d, at, changed(pages[at], 8, last))
		wantRecords(t, d, 0, 6, 1, 1, records...)
		put(t, d, at, pages[at])
	}
	put(t, d, 3, pageOf(1, 4, 2, full))
	put(t, d, 2, pageOf(1, 3, 0, full))
	wantRecords(t, d, 0, 6, 1, 1, full+full+full+full, full+"b")
}

// A page with another mark, the same ahead and behind: only one with another place, or a generation
// that doesn't go on from those ahead, isn't right.
func TestP91BothMarks(t *testing.T) {
	for at := range 3 {
		for place := range uint32(6) {
			for g := range uint32(6) {
				pages := [][]byte{pageOf(2, 1, 3, "a"), pageOf(3, 2, 3, "b"), pageOf(4, 3, 3, "c")}
				pages[at] = pageOf(g, place, 3, "x")
				records, _ := modelRecords(pages, 2)
				if place != uint32(at+1) || g < uint32(at+1) || at == 0 && g < 2 {
					records = []string{"a", "b"}[:at]
				}
				wantRecords(t, deviceOf(t, pages...), 0, 3, 2, 9, records...)
			}
		}
	}
	for _, place := range []uint32{1 + 1<<8, 1 + 1<<16, 1 + 1<<24, 1<<32 - 1} {
		wantRecords(t, deviceOf(t, pageOf(1, place, 3, "a")), 0, 1, 1, 1)
	}
}

// A part that isn't a record's last one has just 110 bytes, the last one any number up to that.
func TestP91LengthsOfParts(t *testing.T) {
	for n := range 111 {
		for kind := range byte(4) {
			part := strings.Repeat("p", n)
			for at := range 3 {
				pages := pagesOf(1, 1, strings.Repeat("x", 330))
				pages[at] = pageOf(1, uint32(at+1), kind, part)
				records, _ := modelRecords(pages, 1)
				wantRecordsOf(t, deviceOf(t, pages...), pages, 1, records)
				switch {
				case at == 2 && kind == 2:
					records = []string{strings.Repeat("x", 220) + part}
				case at == 1 && kind == 2:
					records = []string{strings.Repeat("x", 110) + part}
				case at == 0 && kind == 3:
					records = []string{part}
				case at == 0 && kind == 1 && n == 110:
					records = []string{part + strings.Repeat("x", 220)}
				case at == 1 && kind == 0 && n == 110:
					records = []string{strings.Repeat("x", 110) + part + strings.Repeat("x", 110)}
				default:
					records = nil
				}
				_, x, _ := wal.Open(deviceOf(t, pages...), 0, 3, 1, 1)
				wantTexts(t, x, records)
			}
		}
	}
}

// A record has at most 6000 bytes: what is longer is none.
func TestP91LengthsOfRecords(t *testing.T) {
	for n, ok := range map[int]bool{5940: true, 5999: true, 6000: true, 6001: false, 6049: false, 6050: false, 6051: false, 7000: false} {
		pages := append(pagesOf(1, 1, "a"), pagesOf(1, 2, strings.Repeat("l", n))...)
		pages = append(pages, pagesOf(1, uint32(len(pages)+1), "b")...)
		records := []string{"a"}
		if ok {
			records = []string{"a", strings.Repeat("l", n), "b"}
		}
		wantRecords(t, deviceOf(t, pages...), 0, len(pages), 1, 1, records...)
	}
}

// wantRecordsOf holds Open to the model, its Room too.
func wantRecordsOf(t *testing.T, d *device.Device, pages [][]byte, least uint32, records []string) {
	t.Helper()
	_, used := modelRecords(pages, least)
	l, x, e := wal.Open(d, 0, len(pages), least, math.MaxUint32)
	want(t, "Open", e, api.OK)
	wantTexts(t, x, records)
	wantRoom(t, l, len(pages)-used)
}

func wantTexts(t *testing.T, x [][]byte, records []string) {
	t.Helper()
	if len(x) != len(records) {
		t.Fatalf("records: %q, want %q", x, records)
	}
	for i, r := range records {
		if string(x[i]) != r {
			t.Fatalf("record %v: %q, want %q", i, x[i], r)
		}
	}
}

// All pages of a few kinds and generations, one behind the other: the log is as the chapter has it.
func TestP91AllOrders(t *testing.T) {
	kinds, count := 5, 4
	if testing.Short() {
		kinds, count = 4, 3
	}
	all := 1
	for range count {
		all *= kinds * 3
	}
	for n := range all {
		var pages [][]byte
		for i := range count {
			kind, g := n%kinds, n/kinds%3+1
			n /= kinds * 3
			part := full
			if kind == 2 || kind == 3 {
				part = full[i : 3*i]
			}
			pages = append(pages, pageOf(uint32(g), uint32(i+1), byte(kind), part))
		}
		d := deviceOf(t, pages...)
		for least := range uint32(3) {
			records, _ := modelRecords(pages, least+1)
			wantRecordsOf(t, d, pages, least+1, records)
		}
	}
}

// Logs of many pages that are nearly right.
func TestP91AnyPages(t *testing.T) {
	chance := rand.New(rand.NewSource(91))
	for range 3000 {
		var pages [][]byte
		g := uint32(1 + chance.Intn(3))
		for len(pages) < 12 {
			r := make([]byte, chance.Intn(500))
			chance.Read(r)
			pages = append(pages, pagesOf(g, uint32(len(pages)+1), string(r))...)
			g += uint32(chance.Intn(3))
		}
		for range chance.Intn(3) {
			i := chance.Intn(len(pages))
			pages[i] = changed(pages[i], chance.Intn(128), 1<<chance.Intn(8))
		}
		least := uint32(1 + chance.Intn(4))
		records, _ := modelRecords(pages, least)
		wantRecordsOf(t, deviceOf(t, pages...), pages, least, records)
	}
}

// A log's least generation takes all records ahead of it, even where later ones stand behind them.
func TestP91Least(t *testing.T) {
	d := deviceOf(t, pageOf(3, 1, 3, "a"), pageOf(3, 2, 3, "b"), pageOf(7, 3, 3, "c"), pageOf(math.MaxUint32, 4, 3, "d"))
	for _, least := range []uint32{1, 2, 3} {
		wantRecords(t, d, 0, 4, least, math.MaxUint32, "a", "b", "c", "d")
		wantRecords(t, d, 0, 4, least, least, "a", "b", "c", "d")
		wantRecords(t, d, 0, 3, least, 8, "a", "b", "c")
	}
	for _, least := range []uint32{4, 7, math.MaxUint32} {
		wantRecords(t, d, 0, 4, least, math.MaxUint32)
	}
	wantRecords(t, d, 2, 2, 1, 9)
}

// A record whose pages end with the log's isn't whole.
func TestP91EndsWithinARecord(t *testing.T) {
	pages := append(pagesOf(1, 1, "a"), pagesOf(1, 2, full+full+full+"b")...)
	d := deviceOf(t, pages...)
	for count := range 6 {
		switch count {
		case 0:
			wantRecords(t, d, 0, 0, 1, 1)
		case 5:
			wantRecords(t, d, 0, 5, 1, 1, "a", full+full+full+"b")
		default:
			wantRecords(t, d, 0, count, 1, 1, "a")
		}
	}
}

func TestP91OpenAnswersNewMemory(t *testing.T) {
	pages := append(pagesOf(1, 1, "abc"), append(pagesOf(1, 2, full+"d"), pagesOf(1, 4, "ef")...)...)
	d := deviceOf(t, pages...)
	_, x, _ := wal.Open(d, 0, 4, 1, 2)
	_, y, _ := wal.Open(d, 0, 4, 1, 2)
	for i, r := range x {
		for _, other := range x[i+1:] {
			before := string(other)
			clear(r[:cap(r)])
			if string(other) != before {
				t.Error("two records share memory")
			}
		}
		clear(r[:cap(r)])
	}
	clear(x[:cap(x)])
	wantTexts(t, y, []string{"abc", full + "d", "ef"})
	wantPages(t, d, 0, pages...)
	put(t, d, 0, make([]byte, 128), make([]byte, 128))
	wantTexts(t, y, []string{"abc", full + "d", "ef"})
}
