package wal_test

import (
	"bytes"
	"encoding/binary"
	"testing"

	"rolodex/api"
	"rolodex/device"
	"rolodex/wal"
)

// pageOf has the bytes of a page as the chapter has them.
func pageOf(generation, place uint32, kind byte, part string) []byte {
	b := make([]byte, 128)
	binary.BigEndian.PutUint32(b, generation)
	binary.BigEndian.PutUint32(b[4:], place)
	b[8], b[9] = kind, byte(len(part))
	copy(b[10:120], part)
	copy(b[120:], b[:8])
	return b
}

// pagesOf has a record's pages, the first one at the place given.
func pagesOf(generation, place uint32, record string) [][]byte {
	if len(record) <= 110 {
		return [][]byte{pageOf(generation, place, 3, record)}
	}
	pages := [][]byte{pageOf(generation, place, 1, record[:110])}
	for record = record[110:]; len(record) > 110; record = record[110:] {
		place++
		pages = append(pages, pageOf(generation, place, 0, record[:110]))
	}
	return append(pages, pageOf(generation, place+1, 2, record))
}

// modelRight tells whether a page is right at a place, as the chapter has it; ahead is the
// generation of the page ahead, or the log's least one.
func modelRight(b []byte, place, ahead uint32) bool {
	n := int(b[9])
	if !bytes.Equal(b[:8], b[120:]) || binary.BigEndian.Uint32(b[4:]) != place || binary.BigEndian.Uint32(b) < ahead {
		return false
	}
	if n > 110 || len(bytes.Trim(b[10+n:120], "\x00")) != 0 {
		return false
	}
	return n == 110 || b[8] == 2 || b[8] == 3
}

// modelRecords answers the records of a log's pages, and how many pages they take: all right pages
// first, and what they make up then.
func modelRecords(pages [][]byte, least uint32) ([]string, int) {
	right := 0
	for ahead := least; right < len(pages) && modelRight(pages[right], uint32(right+1), ahead); right++ {
		ahead = binary.BigEndian.Uint32(pages[right])
	}
	var records []string
	used := 0
	for end := 1; end <= right; end++ {
		run := pages[used:end]
		if kinds := kindsOf(run); kinds == "\x03" || kinds == "\x01"+string(make([]byte, max(len(run)-2, 0)))+"\x02" {
			record, one := "", true
			for _, b := range run {
				record += string(b[10 : 10+b[9]])
				one = one && bytes.Equal(b[:4], run[0][:4])
			}
			if !one || len(record) > api.MaxRecord {
				break
			}
			records, used = append(records, record), end
		}
	}
	return records, used
}

func kindsOf(pages [][]byte) string {
	var kinds []byte
	for _, b := range pages {
		kinds = append(kinds, b[8])
	}
	return string(kinds)
}

// changed is a page whose byte at is another one.
func changed(b []byte, at int, x byte) []byte {
	b = bytes.Clone(b)
	b[at] ^= x
	return b
}

// set is a page whose byte at is x.
func set(b []byte, at int, x byte) []byte {
	b = bytes.Clone(b)
	b[at] = x
	return b
}

func newDevice(t *testing.T, pages int) *device.Device {
	t.Helper()
	d, e := device.New(pages)
	if e != api.OK || d == nil {
		t.Fatal("New of", pages, ":", e)
	}
	return d
}

// deviceOf has a device of the pages given, and nothing waits.
func deviceOf(t *testing.T, pages ...[]byte) *device.Device {
	t.Helper()
	d := newDevice(t, len(pages))
	put(t, d, 0, pages...)
	return d
}

// put lets the pages from from on have these bytes for good.
func put(t *testing.T, d *device.Device, from int, pages ...[]byte) {
	t.Helper()
	for i, b := range pages {
		want(t, "Write", d.Write(from+i, b), api.OK)
	}
	want(t, "Flush", d.Flush(), api.OK)
}

// down lets a device's power go; what waits goes on waiting.
func down(t *testing.T, d *device.Device) {
	t.Helper()
	d.SetFuse(0)
	want(t, "Flush", d.Flush(), api.ErrLost)
}

func want(t *testing.T, what string, e, wanted api.Errno) {
	t.Helper()
	if e != wanted {
		t.Fatal(what, ":", e, "want", wanted)
	}
}

func wantPages(t *testing.T, d *device.Device, from int, wanted ...[]byte) {
	t.Helper()
	for i, w := range wanted {
		if b, e := d.Read(from + i); e != api.OK || !bytes.Equal(b, w) {
			t.Fatal("page", from+i, ":", b, e, "want", w)
		}
	}
}

func wantRoom(t *testing.T, l *wal.Log, n int) {
	t.Helper()
	if l.Room() != n {
		t.Fatal("Room:", l.Room(), "want", n)
	}
}

// wantRecords holds what Open answers to the records given; it answers the log.
func wantRecords(t *testing.T, d *device.Device, from, count int, least, generation uint32, records ...string) *wal.Log {
	t.Helper()
	l, x, e := wal.Open(d, from, count, least, generation)
	if l == nil || e != api.OK || len(x) != len(records) {
		t.Fatalf("Open: %q, %v, want %q", x, e, records)
	}
	used := 0
	for i, r := range records {
		if string(x[i]) != r {
			t.Fatalf("record %v: %q, want %q", i, x[i], r)
		}
		used += wal.Parts(len(r))
	}
	if used <= count {
		wantRoom(t, l, count-used)
	}
	return l
}

// wantNoLog holds that Open answers the error, and nothing beside it.
func wantNoLog(t *testing.T, d *device.Device, from, count int, least, generation uint32, wanted api.Errno) {
	t.Helper()
	if l, x, e := wal.Open(d, from, count, least, generation); l != nil || len(x) != 0 || e != wanted {
		t.Errorf("Open of %v, %v, %v, %v: %v, %q, %v, want the error %v", from, count, least, generation, l, x, e, wanted)
	}
}

func mustAppend(t *testing.T, l *wal.Log, records ...string) {
	t.Helper()
	for _, r := range records {
		want(t, "Append", l.Append([]byte(r)), api.OK)
	}
}
