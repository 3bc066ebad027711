package slot_test

import (
	"bytes"
	"encoding/binary"
	"testing"

	"rolodex/api"
	"rolodex/device"
	"rolodex/slot"
)

const greatest = 1<<64 - 1

// pageOf has the bytes of a page as the chapter has them.
func pageOf(serial uint64, value string) []byte {
	b := make([]byte, 128)
	binary.BigEndian.PutUint64(b, serial)
	binary.BigEndian.PutUint16(b[8:], uint16(len(value)))
	copy(b[10:120], value)
	binary.BigEndian.PutUint64(b[120:], serial)
	return b
}

// changed is a page whose byte at is another one.
func changed(b []byte, at int, x byte) []byte {
	b = bytes.Clone(b)
	b[at] ^= x
	return b
}

// modelPage answers the serial and value of a page, as the chapter has them; where is 0 of the page
// at, and 1 of the one behind it.
func modelPage(b []byte, where uint64) (uint64, string) {
	ahead, behind := binary.BigEndian.Uint64(b), binary.BigEndian.Uint64(b[120:])
	n := binary.BigEndian.Uint16(b[8:])
	if ahead != behind || ahead == 0 || n > 110 || ahead&1 != where {
		return 0, ""
	}
	return ahead, string(b[10 : 10+n])
}

// modelLoad answers what both pages' bytes have.
func modelLoad(one, two []byte) (uint64, string) {
	s, v := modelPage(one, 0)
	if t, w := modelPage(two, 1); t > s {
		return t, w
	}
	return s, v
}

func newDevice(t *testing.T, pages int) *device.Device {
	t.Helper()
	d, e := device.New(pages)
	if e != api.OK || d == nil {
		t.Fatal("New of", pages, ":", e)
	}
	return d
}

// put lets a page have these bytes for good.
func put(t *testing.T, d *device.Device, i int, b []byte) {
	t.Helper()
	if e := d.Write(i, b); e != api.OK {
		t.Fatal("Write:", e)
	}
	if e := d.Flush(); e != api.OK {
		t.Fatal("Flush:", e)
	}
}

// pagesOf has a device of the pages given.
func pagesOf(t *testing.T, pages ...[]byte) *device.Device {
	t.Helper()
	d := newDevice(t, len(pages))
	for i, b := range pages {
		put(t, d, i, b)
	}
	return d
}

func wantPage(t *testing.T, d *device.Device, i int, want []byte) {
	t.Helper()
	if b, e := d.Read(i); e != api.OK || !bytes.Equal(b, want) {
		t.Error("page", i, ":", b, e, "want", want)
	}
}

func wantLoad(t *testing.T, d *device.Device, at int, serial uint64, value string) {
	t.Helper()
	if n, v, e := slot.Load(d, at); n != serial || string(v) != value || e != api.OK {
		t.Errorf("Load at %v: %v, %q, %v; want %v, %q", at, n, v, e, serial, value)
	}
}

func wantSave(t *testing.T, d *device.Device, at int, value string, serial uint64) {
	t.Helper()
	if n, e := slot.Save(d, at, []byte(value)); n != serial || e != api.OK {
		t.Errorf("Save of %q at %v: %v, %v; want %v", value, at, n, e, serial)
	}
}

func wantNoLoad(t *testing.T, d *device.Device, at int, want api.Errno) {
	t.Helper()
	if n, v, e := slot.Load(d, at); n != 0 || len(v) != 0 || e != want {
		t.Errorf("Load at %v: %v, %q, %v; want the error %v", at, n, v, e, want)
	}
}

func wantNoSave(t *testing.T, d *device.Device, at int, value []byte, want api.Errno) {
	t.Helper()
	if n, e := slot.Save(d, at, value); n != 0 || e != want {
		t.Errorf("Save of %q at %v: %v, %v; want the error %v", value, at, n, e, want)
	}
}
