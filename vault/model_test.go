package vault_test

import (
	"bytes"
	"encoding/binary"
	"slices"
	"strings"
	"testing"

	"rolodex/api"
	"rolodex/device"
	"rolodex/slot"
	"rolodex/vault"
	"rolodex/wal"
)

const greatest = 1<<32 - 1

var full = strings.Repeat("0123456789", 11)

// slotPage has the bytes of a slot's page as chapter 8 has them.
func slotPage(serial uint64, value []byte) []byte {
	b := make([]byte, 128)
	binary.BigEndian.PutUint64(b, serial)
	binary.BigEndian.PutUint16(b[8:], uint16(len(value)))
	copy(b[10:120], value)
	copy(b[120:], b[:8])
	return b
}

// valueOf has the nine bytes of the slot's value as the chapter has them.
func valueOf(active byte, least, generation uint32) []byte {
	b := make([]byte, 9)
	b[0] = active
	binary.BigEndian.PutUint32(b[1:], least)
	binary.BigEndian.PutUint32(b[5:], generation)
	return b
}

// logPages has a record's pages as chapter 9 has them, the first one at the place given.
func logPages(generation, place uint32, record string) [][]byte {
	var pages [][]byte
	for ahead := 0; ahead == 0 || ahead < len(record); ahead += 110 {
		part := record[ahead:min(ahead+110, len(record))]
		b := make([]byte, 128)
		binary.BigEndian.PutUint32(b, generation)
		binary.BigEndian.PutUint32(b[4:], place)
		b[9] = byte(len(part))
		if ahead == 0 {
			b[8] |= 1
		}
		if ahead+110 >= len(record) {
			b[8] |= 2
		}
		copy(b[10:120], part)
		copy(b[120:], b[:8])
		pages, place = append(pages, b), place+1
	}
	return pages
}

// logOf has the pages of records, one behind the other, from the first place on.
func logOf(generation uint32, records ...string) [][]byte {
	var pages [][]byte
	for _, r := range records {
		pages = append(pages, logPages(generation, uint32(len(pages)+1), r)...)
	}
	return pages
}

// A plain vault does by hand what the chapter says, write by write and flush by flush, on a device
// of its own.
type plain struct {
	d           *device.Device
	space, used int
	serial      uint64
	active      int
	least       uint32
	generation  uint32
	log         uint32
	over        bool
}

// openPlain tells the slot's value apart by its bytes; what a slot has and which records a log has
// is asked of layers 8 and 9.
func openPlain(d *device.Device) (*plain, []string, api.Errno) {
	if d == nil || d.Pages() < 4 {
		return nil, nil, api.ErrArg
	}
	serial, value, e := slot.Load(d, 0)
	if e != api.OK {
		return nil, nil, e
	}
	p := &plain{d: d, space: (d.Pages() - 2) / 2, serial: serial, least: 1}
	if serial > 0 {
		if len(value) != 9 {
			return nil, nil, api.ErrForm
		}
		p.active = int(value[0])
		p.least, p.generation = binary.BigEndian.Uint32(value[1:]), binary.BigEndian.Uint32(value[5:])
		if p.active > 1 || p.least < 1 || p.generation == greatest || p.generation < p.least {
			return nil, nil, api.ErrForm
		}
	}
	p.log = max(p.generation+1, p.least)
	if e := p.save(p.active, p.least, p.log); e != api.OK {
		return nil, nil, e
	}
	_, x, e := wal.Open(d, p.from(p.active), p.space, p.least, p.log)
	if e != api.OK {
		return nil, nil, e
	}
	return p, p.find(x), api.OK
}

// find puts the plain vault behind the records.
func (p *plain) find(x [][]byte) []string {
	var records []string
	for _, r := range x {
		records = append(records, string(r))
		p.used += wal.Parts(len(r))
	}
	return records
}

func (p *plain) from(area int) int {
	return 2 + area*p.space
}

func (p *plain) save(active int, least, generation uint32) api.Errno {
	if p.serial == 1<<64-1 {
		return api.ErrFull
	}
	b := slotPage(p.serial+1, valueOf(byte(active), least, generation))
	if e := p.d.Write(int((p.serial+1)%2), b); e != api.OK {
		return e
	}
	if e := p.d.Flush(); e != api.OK {
		return e
	}
	p.serial, p.active, p.least, p.generation = p.serial+1, active, least, generation
	return api.OK
}

// put writes a record's pages behind those that an area has.
func (p *plain) put(area int, used *int, generation uint32, record string) api.Errno {
	pages := logPages(generation, uint32(*used+1), record)
	if *used+len(pages) > p.space {
		return api.ErrFull
	}
	for i, b := range pages {
		if e := p.d.Write(p.from(area)+*used+i, b); e != api.OK {
			return e
		}
	}
	*used += len(pages)
	return api.OK
}

func (p *plain) tell(e api.Errno) api.Errno {
	p.over = p.over || e == api.ErrLost
	return e
}

func (p *plain) append(record string) api.Errno {
	if p.over {
		return api.ErrLost
	}
	if len(record) > 6000 {
		return api.ErrLong
	}
	return p.tell(p.put(p.active, &p.used, p.log, record))
}

func (p *plain) flush() api.Errno {
	if p.over {
		return api.ErrLost
	}
	return p.tell(p.d.Flush())
}

func (p *plain) replace(records []string) api.Errno {
	if p.over {
		return api.ErrLost
	}
	if slices.ContainsFunc(records, func(r string) bool { return len(r) > 6000 }) {
		return api.ErrLong
	}
	if len(logOf(1, records...)) > p.space || p.generation >= greatest-1 {
		return api.ErrFull
	}
	return p.tell(p.turn(records))
}

func (p *plain) turn(records []string) api.Errno {
	if e := p.save(p.active, p.least, p.generation+1); e != api.OK {
		return e
	}
	other, g := 1-p.active, p.generation
	l, _, e := wal.Open(p.d, p.from(other), p.space, g, g)
	if e != api.OK {
		return e
	}
	used := p.space - l.Room()
	for _, r := range records {
		if e := p.put(other, &used, g, r); e != api.OK {
			return e
		}
	}
	if e := p.d.Flush(); e != api.OK {
		return e
	}
	if e := p.save(other, g, g); e != api.OK {
		return e
	}
	p.used, p.log = used, g
	return api.OK
}

func newDevice(t *testing.T, pages int) *device.Device {
	t.Helper()
	d, e := device.New(pages)
	if e != api.OK || d == nil {
		t.Fatal("New of", pages, ":", e)
	}
	return d
}

// deviceOf has a device whose slot has the value, with the serial given; nothing waits.
func deviceOf(t *testing.T, pages int, serial uint64, value []byte) *device.Device {
	t.Helper()
	d := newDevice(t, pages)
	put(t, d, int(serial%2), slotPage(serial, value))
	return d
}

// put lets the pages from from on have these bytes for good.
func put(t *testing.T, d *device.Device, from int, pages ...[]byte) {
	t.Helper()
	for i, b := range pages {
		want(t, "Write", d.Write(from+i, b), api.OK)
	}
	want(t, "Flush", d.Flush(), api.OK)
}

// down lets a device's power go; what waits goes on waiting.
func down(t *testing.T, d *device.Device) {
	t.Helper()
	d.SetFuse(0)
	want(t, "Flush", d.Flush(), api.ErrLost)
}

// allPages answers what is on a device.
func allPages(t *testing.T, d *device.Device) [][]byte {
	t.Helper()
	var pages [][]byte
	for i := range d.Pages() {
		b, e := d.Read(i)
		want(t, "Read", e, api.OK)
		pages = append(pages, b)
	}
	return pages
}

func want(t *testing.T, what string, e, wanted api.Errno) {
	t.Helper()
	if e != wanted {
		t.Fatal(what, ":", e, "want", wanted)
	}
}

func wantPages(t *testing.T, d *device.Device, from int, wanted ...[]byte) {
	t.Helper()
	for i, w := range wanted {
		if b, e := d.Read(from + i); e != api.OK || !bytes.Equal(b, w) {
			t.Fatal("page", from+i, ":", b, e, "want", w)
		}
	}
}

func wantNoughts(t *testing.T, d *device.Device, from, to int) {
	t.Helper()
	for i := from; i < to; i++ {
		wantPages(t, d, i, make([]byte, 128))
	}
}

func wantTexts(t *testing.T, x [][]byte, records ...string) {
	t.Helper()
	if len(x) != len(records) {
		t.Fatalf("records: %q, want %q", x, records)
	}
	for i, r := range records {
		if string(x[i]) != r {
			t.Fatalf("record %v: %q, want %q", i, x[i], r)
		}
	}
}

func wantRoom(t *testing.T, v *vault.Vault, room, space int) {
	t.Helper()
	if v.Room() != room || v.Space() != space {
		t.Fatal("Room, Space:", v.Room(), v.Space(), "want", room, space)
	}
}

// wantRecords holds what Open answers to the records given; it answers the vault.
func wantRecords(t *testing.T, d *device.Device, records ...string) *vault.Vault {
	t.Helper()
	v, x, e := vault.Open(d)
	if v == nil || e != api.OK {
		t.Fatal("Open:", v, e)
	}
	wantTexts(t, x, records...)
	space := (d.Pages() - 2) / 2
	wantRoom(t, v, space-len(logOf(1, records...)), space)
	return v
}

// wantNoVault holds that Open answers the error, and nothing beside it.
func wantNoVault(t *testing.T, d *device.Device, wanted api.Errno) {
	t.Helper()
	if v, x, e := vault.Open(d); v != nil || len(x) != 0 || e != wanted {
		t.Fatalf("Open: %v, %q, %v, want the error %v", v, x, e, wanted)
	}
}

// wantUntouched holds that Open answers the error and does no operation.
func wantUntouched(t *testing.T, d *device.Device, wanted api.Errno) {
	t.Helper()
	before := allPages(t, d)
	d.SetFuse(0)
	wantNoVault(t, d, wanted)
	if d.Waits() != 0 || d.Down() {
		t.Fatal("what was refused was begun:", d.Waits(), d.Down())
	}
	d.SetFuse(-1)
	wantPages(t, d, 0, before...)
}

// wantOver holds that a vault is over, and does nothing any more.
func wantOver(t *testing.T, v *vault.Vault, room, space int) {
	t.Helper()
	for _, n := range []int{0, 1, 111, 6000, 6001} {
		want(t, "Append of a vault that is over", v.Append(make([]byte, n)), api.ErrLost)
		want(t, "Replace of a vault that is over", v.Replace([][]byte{make([]byte, n)}), api.ErrLost)
	}
	want(t, "Replace of a vault that is over", v.Replace(nil), api.ErrLost)
	want(t, "Flush of a vault that is over", v.Flush(), api.ErrLost)
	wantRoom(t, v, room, space)
}

func mustAppend(t *testing.T, v *vault.Vault, records ...string) {
	t.Helper()
	for _, r := range records {
		want(t, "Append", v.Append([]byte(r)), api.OK)
	}
}

func listOf(records []string) [][]byte {
	var list [][]byte
	for _, r := range records {
		list = append(list, []byte(r))
	}
	return list
}

func mustReplace(t *testing.T, v *vault.Vault, records ...string) {
	t.Helper()
	want(t, "Replace", v.Replace(listOf(records)), api.OK)
}
